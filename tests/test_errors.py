"""[3]: the classes of errors."""

import ast
import pathlib
import unittest

from quotedback import errors

NAMES = [
    "InvalidTree", "InvalidName", "InvalidNumber", "InvalidRoom", "InvalidPattern", "Unreadable", "Refused",
    "NoInteger", "DividedByZero", "TooGreat", "Wanted", "InvalidWorld", "InvalidPath", "UnknownTool",
    "InvalidFilters", "InvalidNet", "InvalidMove", "InvalidOrder", "TooLong", "Done", "NoLine", "NothingToUndo",
    "DoubleName", "UnknownName",
]


class ErrorsTest(unittest.TestCase):
    def test_all_25_are_there(self):
        told = ["ShellError"] + NAMES
        self.assertEqual(len(told), 25)
        tree = ast.parse(pathlib.Path(errors.__file__).read_text())
        self.assertEqual(sorted(node.name for node in tree.body if isinstance(node, ast.ClassDef)), sorted(told))

    def test_each_holds_the_value_itself(self):
        changing = [1, [2]]
        values = [0, -7, 10 ** 18, True, False, None, "", "text", changing, [], (), (1, [2]), {}, {"a": [1]}, "is"]
        for title in ["ShellError"] + NAMES:
            made = getattr(errors, title)
            for value in values:
                self.assertIs(made(value).value, value)
                self.assertIs(made(value=value).value, value)

    def test_a_list_that_is_changed_afterwards_is_seen(self):
        for title in ["ShellError"] + NAMES:
            rows = [1]
            first, second = getattr(errors, title)(rows), getattr(errors, title)(value=rows)
            rows.append([2])
            self.assertEqual(first.value, [1, [2]])
            self.assertIs(first.value, rows)
            self.assertIs(second.value, rows)

    def test_their_base_classes(self):
        self.assertEqual(errors.ShellError.__bases__, (ValueError,))
        for title in NAMES:
            made = getattr(errors, title)
            self.assertEqual(made.__bases__, (errors.ShellError,))
            others = [getattr(errors, other) for other in NAMES if other != title]
            self.assertFalse(isinstance(made(0), tuple(others)))
            with self.assertRaises(ValueError) as caught:
                raise made(title)
            self.assertEqual(caught.exception.value, title)

    def test_one_argument_is_wanted(self):
        for title in ["ShellError"] + NAMES:
            with self.assertRaises(TypeError):
                getattr(errors, title)()
            with self.assertRaises(TypeError):
                getattr(errors, title)(1, 2)
