"""What can be seen, file by file, of the rules of the language that the package keeps to."""

import ast
import builtins
import io
import pathlib
import re
import tokenize
import unittest
import warnings

PACKAGE = pathlib.Path(__file__).resolve().parent.parent / "quotedback"
FILES = sorted(PACKAGE.rglob("*.py"))

BUILTINS = set("""len range enumerate zip min max sum abs sorted reversed int str bool list tuple dict set isinstance ord
repr any all divmod property Exception ValueError TypeError KeyError IndexError LookupError ZeroDivisionError iter next
True False None NotImplemented""".split())
METHODS = set("""append clear copy count endswith extend find get index insert isalnum isalpha isdigit islower isspace
isupper items join keys ljust lower lstrip partition pop remove replace reverse rfind rjust rpartition rsplit rstrip
setdefault split splitlines startswith strip update upper values zfill bit_length""".split())
BARRED_WORDS = set("""type typing enum Enum Generic Protocol ABC namedtuple register mro elements open input law globals
locals vars eval exec compile importlib builtins os sys gc dir id hash super getattr setattr hasattr delattr""".split())
LIBRARY = {"heapq", "math", "itertools"}
BARRED_NODES = (
    ast.Global, ast.AsyncFunctionDef, ast.AsyncFor, ast.AsyncWith, ast.Await, ast.Import, ast.Div, ast.MatMult,
    ast.MatchMapping, ast.AnnAssign,
)


def tree_of(file):
    return ast.parse(file.read_text())


def functions_in(tree):
    return [node for node in ast.walk(tree) if isinstance(node, ast.FunctionDef)]


def bound_names(node):
    """All names that something within a node binds."""
    for inner in ast.walk(node):
        if isinstance(inner, ast.Name) and isinstance(inner.ctx, ast.Store):
            yield inner.id
        elif isinstance(inner, ast.arg):
            yield inner.arg
        elif isinstance(inner, (ast.FunctionDef, ast.ClassDef)):
            yield inner.name
        elif isinstance(inner, (ast.MatchAs, ast.MatchStar)) and inner.name:
            yield inner.name


def imports_of(tree):
    return {node.module: [alias.name for alias in node.names] for node in tree.body if isinstance(node, ast.ImportFrom)}


class LanguageTest(unittest.TestCase):
    def test_the_folder_holds_plain_files_alone(self):
        self.assertIn(PACKAGE / "__init__.py", FILES)
        for path in PACKAGE.iterdir():
            if path.name != "__pycache__":
                self.assertRegex(path.name, r"\A[a-z_][a-z0-9_]*\.py\Z")

    def test_sizes_and_characters(self):
        for file in FILES:
            text = file.read_text()
            self.assertTrue(all(sign == "\n" or " " <= sign <= "~" for sign in text), file)
            self.assertLessEqual(len(text.splitlines()), 399, file)
            self.assertLessEqual(max(map(len, text.splitlines())), 120, file)
            for node in functions_in(tree_of(file)):
                self.assertLessEqual(node.end_lineno - node.lineno + 1, 40, node.name)

    def test_no_warnings(self):
        with warnings.catch_warnings():
            warnings.simplefilter("error")
            for file in FILES:
                compile(file.read_text(), str(file), "exec")

    def test_imports_name_the_file_that_defines(self):
        defined = {}
        for file in FILES:
            body = tree_of(file).body
            defined["quotedback." + file.stem] = {name for node in body for name in bound_names(node)}
        for file in FILES:
            for module, names in imports_of(tree_of(file)).items():
                if module not in LIBRARY:
                    self.assertTrue(module in defined, (file, module))
                    for name in names:
                        self.assertIn(name, defined[module], file)

    def test_no_two_files_import_from_each_other(self):
        needed = {"quotedback." + file.stem: set(imports_of(tree_of(file))) - LIBRARY for file in FILES}
        while needed:
            free = [module for module in needed if not any(other in needed for other in needed[module])]
            self.assertNotEqual(free, [], needed)
            needed = {module: needed[module] for module in needed if module not in free}

    def test_module_level_holds_definitions_alone(self):
        for file in FILES:
            names = []
            for node in tree_of(file).body:
                if isinstance(node, ast.Expr):
                    self.assertIsInstance(node.value.value, str)
                else:
                    self.assertIsInstance(node, (ast.ImportFrom, ast.FunctionDef, ast.ClassDef, ast.Assign))
                if isinstance(node, ast.ImportFrom):
                    names += [alias.name for alias in node.names]
                elif isinstance(node, ast.Assign):
                    names += [target.id for target in node.targets]
                elif not isinstance(node, ast.Expr):
                    names.append(node.name)
            self.assertEqual(len(names), len(set(names)), file)

    def test_words_and_statements_that_are_not_used(self):
        for file in FILES:
            for node in ast.walk(tree_of(file)):
                self.assertNotIsInstance(node, BARRED_NODES)
                if isinstance(node, ast.FunctionDef):
                    for decorator in node.decorator_list:
                        self.assertIn(ast.unparse(decorator), ("property", "staticmethod", "classmethod"))
                if isinstance(node, ast.ClassDef):
                    self.assertEqual(node.decorator_list, [])
                if isinstance(node, ast.Name):
                    self.assertNotIn(node.id, BARRED_WORDS)
                if isinstance(node, ast.Constant):
                    self.assertNotIsInstance(node.value, float)

    def test_names_of_builtins_and_imports_are_not_bound(self):
        for file in FILES:
            tree = tree_of(file)
            imported = {name for names in imports_of(tree).values() for name in names}
            for name in bound_names(tree):
                self.assertFalse(hasattr(builtins, name) and name != "__init__", (file, name))
                self.assertNotIn(name, imported, file)
                self.assertNotIn(name, BARRED_WORDS, file)

    def test_builtins_and_methods_that_are_used(self):
        classes = [node for file in FILES for node in tree_of(file).body if isinstance(node, ast.ClassDef)]
        own = {node.name for one in classes for node in one.body if isinstance(node, ast.FunctionDef)}
        for file in FILES:
            tree = tree_of(file)
            for node in ast.walk(tree):
                if isinstance(node, ast.Name) and hasattr(builtins, node.id):
                    self.assertIn(node.id, BUILTINS, file)
                if isinstance(node, ast.Call) and isinstance(node.func, ast.Attribute):
                    self.assertIn(node.func.attr, METHODS | own, file)

    def test_strings(self):
        for file in FILES:
            for token in tokenize.generate_tokens(io.StringIO(file.read_text()).readline):
                if token.type == tokenize.STRING:
                    self.assertNotIn("%", token.string)
                    self.assertEqual(re.sub(r"\\[nt\\'\"]", "", token.string).count("\\"), 0, token.string)
                    self.assertFalse(token.string[:-1].endswith(("._", ".__")), token.string)

    def test_captured_names_are_bound_by_cases_alone(self):
        for file in FILES:
            for function in functions_in(tree_of(file)):
                captured = {node.name for node in ast.walk(function) if isinstance(node, ast.MatchAs) and node.name}
                plain = {node.id for node in ast.walk(function)
                         if isinstance(node, ast.Name) and isinstance(node.ctx, ast.Store)}
                plain |= {node.arg for node in ast.walk(function) if isinstance(node, ast.arg)}
                self.assertEqual(captured & plain, set(), (file, function.name))

    def test_captured_names_are_read_in_their_own_case(self):
        for file in FILES:
            for function in functions_in(tree_of(file)):
                captured = {node.name for node in ast.walk(function) if isinstance(node, ast.MatchAs) and node.name}
                let = set()
                for case in [node for node in ast.walk(function) if isinstance(node, ast.match_case)]:
                    told = {node.name for node in ast.walk(case.pattern) if isinstance(node, ast.MatchAs)}
                    let |= {id(node) for node in ast.walk(case) if isinstance(node, ast.Name) and node.id in told}
                for node in ast.walk(function):
                    if isinstance(node, ast.Name) and node.id in captured:
                        self.assertIn(id(node), let, (file, function.name, node.id))

    def test_attributes_are_assigned_through_names(self):
        for file in FILES:
            for node in ast.walk(tree_of(file)):
                if isinstance(node, ast.Attribute) and isinstance(node.ctx, ast.Store):
                    self.assertIsInstance(node.value, ast.Name, (file, node.lineno))

    def test_no_name_is_a_method_and_an_attribute(self):
        methods, attributes = {}, {}
        for file in FILES:
            for node in ast.walk(tree_of(file)):
                if isinstance(node, ast.ClassDef):
                    methods.update({inner.name: file for inner in node.body if isinstance(inner, ast.FunctionDef)})
                if isinstance(node, ast.Attribute) and isinstance(node.ctx, ast.Store):
                    attributes[node.attr] = file
        self.assertEqual(sorted(set(methods) & set(attributes)), [])

    def test_methods_are_not_read_off_classes(self):
        classes = {node.name for file in FILES for node in tree_of(file).body if isinstance(node, ast.ClassDef)}
        for file in FILES:
            for node in ast.walk(tree_of(file)):
                if isinstance(node, ast.Attribute) and isinstance(node.value, ast.Name) and node.value.id in classes:
                    self.assertEqual(node.attr, "__init__", (file, node.lineno))

    def test_patterns_that_are_joined_capture_nothing(self):
        for file in FILES:
            for node in ast.walk(tree_of(file)):
                if isinstance(node, ast.MatchOr):
                    for inner in ast.walk(node):
                        self.assertNotIsInstance(inner, (ast.MatchAs, ast.MatchStar), (file, node.lineno))

    def test_ranges_and_their_kin_are_gone_through_at_once(self):
        for file in FILES:
            tree = tree_of(file)
            kept = {"range", "zip", "enumerate", "reversed"}
            let = {"list", "tuple", "dict", "sorted", "sum", "any", "all", "enumerate", "zip", "min", "max", "len", "join", "reversed"}
            for node in ast.walk(tree):
                if isinstance(node, (ast.Assign, ast.Return)) and isinstance(node.value, ast.Call):
                    self.assertNotIn(ast.unparse(node.value.func), kept, (file, node.lineno))
                if isinstance(node, ast.Call) and ast.unparse(node.func).split(".")[-1] not in let | {"combinations"}:
                    for part in node.args:
                        if isinstance(part, ast.Call):
                            self.assertNotIn(ast.unparse(part.func), kept, (file, node.lineno))
