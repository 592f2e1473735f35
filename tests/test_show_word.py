"""`show_word`."""

import copy
import unittest

from quotedback.errors import InvalidTree
from quotedback.texts import show_script, show_word
from tests.building import A, B, bare, do, held_here, in_word, lists_in, name, run
from tests.test_words import WRONG_PIECES


class ShowWordTest(unittest.TestCase):
    def check(self, word, text):
        ahead = copy.deepcopy(word)
        self.assertEqual(show_word(word), text)
        self.assertEqual(word, ahead)
        self.assertEqual(show_script([do(word, sets=[("x", "1")])]), "x=1 " + text)

    def test_signs_as_they_are_held_and_marked(self):
        self.check(bare("a./_-,:+@=*?[]!~9Z"), "a./_-,:+@=*?[]!~9Z")
        self.check([("held", "")], "''")
        self.check([("held", "a \"$`\\\n#b")], "'a \"$`\\\n#b'")
        self.check([("held", "a"), ("held", "b")], "'a''b'")
        for sign in "'\\\" $`#a":
            self.check([("mark", sign)], "\\" + sign)
        self.check([("bare", "a"), ("mark", " "), ("bare", "b"), ("held", "c")], "a\\ b'c'")

    def test_between_double_quotes(self):
        self.check([("wide", [])], '""')
        self.check([("wide", [("plain", "a b'#\n{}")])], "\"a b'#\n{}\"")
        self.check([("wide", [("plain", "\"\\$`'")])], "\"\\\"\\\\\\$\\`'\"")
        self.check([("wide", [("plain", "$x")]), ("bare", "y")], '"\\$x"y')
        self.check([("wide", [("plain", "a"), name("x"), ("sum", ("number", 1)), run(A), ("plain", "b")])],
                   '"a$x$((1))$(a)b"')

    def test_names_and_places(self):
        for text in ("x", "_", "aB_9", "0", "1", "9", "#", "?", "@", "*", "if"):
            self.check([name(text)], "$" + text)
            self.check([("wide", [name(text)])], '"$' + text + '"')
        self.check([name("10")], "${10}")
        self.check([name("123456789"), ("held", "")], "${123456789}''")

    def test_braces_where_a_name_would_go_on(self):
        for sign in "azAZ09_":
            self.check([name("x"), ("bare", sign + ".")], "${x}" + sign + ".")
            self.check([("wide", [name("x"), ("plain", sign + " ")])], '"${x}' + sign + ' "')
            self.check([name("y", "lack", False, [name("x"), ("bare", sign)])], "${y-${x}" + sign + "}")
            for place in "019#?@*":
                self.check([name(place), ("bare", sign)], "$" + place + sign)
                self.check([("wide", [name(place), ("plain", sign)])], '"$' + place + sign + '"')
        for sign in "./-,:+@=*?[]!~":
            self.check([name("x"), ("bare", sign + "a")], "$x" + sign + "a")
        for sign in " '{}[(":
            self.check([("wide", [name("x"), ("plain", sign + "a")])], '"$x' + sign + 'a"')
        self.check([("wide", [name("x"), ("plain", "$a")])], '"$x\\$a"')

    def test_no_braces_ahead_of_other_pieces(self):
        for piece, text in ((("held", "a"), "'a'"), (("mark", "a"), "\\a"), (("wide", [("plain", "a")]), '"a"'),
                            (name("y"), "$y"), (("sum", ("number", 1)), "$((1))"), (run(A), "$(a)")):
            self.check([name("x"), piece, ("bare", "b")], "$x" + text + "b" if piece != name("y") else "$x${y}b")
        self.check([name("x"), name("y")], "$x$y")
        self.check([("wide", [name("x")]), ("bare", "a")], '"$x"a')
        self.check([name("y", "other", True, [name("x")]), ("bare", "a")], "${y:+$x}a")

    def test_deeds(self):
        for text in ("x", "1", "12", "@", "?"):
            self.check([name(text, "size")], "${#" + text + "}")
            for kind, mark in (("lack", "-"), ("set", "="), ("must", "?"), ("other", "+")):
                self.check([name(text, kind, False, [])], "${" + text + mark + "}")
                self.check([name(text, kind, True, [])], "${" + text + ":" + mark + "}")
                self.check([name(text, kind, False, bare("a-b"))], "${" + text + mark + "a-b}")
                self.check([name(text, kind, True, [("held", "a}"), name("y")])], "${" + text + ":" + mark + "'a}'$y}")
            for mark in ("#", "##", "^", "^^"):
                self.check([name(text, "cut", mark, [])], "${" + text + mark + "}")
                self.check([name(text, "cut", mark, bare("*/"))], "${" + text + mark + "*/}")
        self.check([name("#", "size"), name("?", "size")], "${##}${#?}")
        self.check([name("#", "cut", "##", [])], "${###}")
        self.check([name("#", "cut", "#", bare("a"))], "${##a}")
        self.check([name("x", "size"), ("bare", "a")], "${#x}a")

    def test_words_of_deeds_are_as_outside_of_quotes(self):
        word = [("held", '"'), ("wide", [("plain", '"\\')]), ("mark", '"')]
        text = "'\"'\"\\\"\\\\\"\\\""
        self.check([("wide", [("plain", '"'), name("x", "lack", False, word)])], '"\\"${x-' + text + '}"')
        self.check([("wide", [name("x", "cut", "#", [("wide", [name("y", "set", True, bare("z"))])])])],
                   '"${x#"${y:=z}"}"')

    def test_sums(self):
        self.check([("sum", ("*", ("+", ("number", 1), ("of", "x")), ("of", "12")))], "$(((1 + x) * $12))")
        self.check([("sum", ("*", ("of", "#"), ("-", ("number", 1), ("of", "x"))))], "$(($# * (1 - x)))")

    def test_runs(self):
        self.check([run()], "$()")
        self.check([run(A, B)], "$(a\nb)")
        self.check([run(do(in_word(A)))], '$("${x-$(a)}")')
        self.check([run(("apart", [A], []))], "$( (\na\n))")
        self.check([run(("and", ("apart", [A], []), B))], "$( (\na\n) && b)")
        self.check([run(("group", [("apart", [A], [])], []))], "$({\n(\na\n)\n})")
        self.check([run(A, ("apart", [B], []))], "$(a\n(\nb\n))")
        self.check([run(do("a", turns=[held_here("b\n")]))], "$(a <<'E'\nb\nE\n)")
        self.check([run(do("a", turns=[held_here("")]), B), ("bare", "c")], "$(a <<'E'\nE\nb)c")

    def test_by_name(self):
        self.assertEqual(show_word(word=bare("a")), "a")

    def test_errors(self):
        wrong = [[], [("bare", "a"), ("bare", "b")], [("held", "it's\n")], [A]] + [[piece] for piece in WRONG_PIECES]
        for word in wrong:
            ahead = copy.deepcopy(word)
            with self.assertRaises(InvalidTree) as caught:
                show_word(word)
            value = caught.exception.value
            self.assertEqual(value, word)
            self.assertEqual(set(lists_in(value)) & set(lists_in(word)), set())
            self.assertEqual(len(set(lists_in(value))), len(lists_in(value)))
            self.assertEqual(word, ahead)
