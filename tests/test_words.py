"""[4], [5]: which words and sums there are."""

import copy
import string
import unittest

from quotedback.trees import is_word
from tests.building import A, B, WRONG, bare, do, name, run

BARE_SIGNS = string.ascii_letters + string.digits + "./_-,:+@=*?[]!~"
OTHER_SIGNS = " \n'\"\\$`#&();<>^{|}"
ALL_SIGNS = "".join(chr(k) for k in range(32, 127) if k != 37) + "\n"

RIGHT_SUMS = [
    ("number", 0), ("number", 7), ("number", 10 ** 18),
    ("of", "x"), ("of", "_"), ("of", "aZ_09"), ("of", "0"), ("of", "1"), ("of", "10"), ("of", "#"), ("of", "?"),
    ("minus", ("number", 1)), ("no", ("of", "x")), ("minus", ("minus", ("number", 0))),
    ("choose", ("of", "x"), ("number", 1), ("number", 2)),
] + [(sign, ("number", 1), ("of", "x")) for sign in "* / ^ + - < <= > >= == != && ||".split()]

WRONG_SUMS = [
    ("number", -1), ("number", -10 ** 18),
    ("of", ""), ("of", "@"), ("of", "*"), ("of", "1a"), ("of", "01"), ("of", "00"), ("of", "a-b"), ("of", "x "),
    ("of", "$x"), ("of", "!"), ("of", "-1"), ("of", "##"),
    ("odd", ("number", 1)), ("odd", 1, 2, 3), ("**", ("number", 1), ("number", 2)), ("", ("number", 1)),
    ("=", ("number", 1), ("number", 2)), ("&", ("number", 1), ("number", 2)), ("//", ("number", 1), ("number", 2)),
    ("!", ("number", 1)),
]


def sums_around(tree):
    one = ("number", 1)
    around = [("minus", tree), ("no", tree), ("choose", tree, one, one), ("choose", one, tree, one),
              ("choose", one, one, tree)]
    for sign in "* / ^ + - < <= > >= == != && ||".split():
        around += [(sign, tree, one), (sign, one, tree)]
    return around


RIGHT_PIECES = [
    ("held", ""), ("held", ALL_SIGNS.replace("'", "")), ("wide", []), ("wide", [("plain", ALL_SIGNS)]),
    ("wide", [("plain", "a"), name("x"), ("plain", "b"), ("sum", ("number", 1)), run()]),
    name("x"), name("_"), name("aZ_09"), name("0"), name("1"), name("9"), name("10"), name("123456789"), name("#"),
    name("?"), name("@"), name("*"), name("if"), name("x", "size"), name("#", "size"), name("?", "size"),
    name("@", "size"), name("12", "size"), ("sum", ("of", "x")), run(), run(A, B),
] + [("mark", sign) for sign in ALL_SIGNS if sign != "\n"] + [
    name(text, kind, empty, word)
    for text in ("x", "1", "12", "0", "?", "@", "*", "#")
    for kind in ("lack", "set", "must", "other") for empty in (False, True)
    for word in ([], bare("a"), [("held", "a b"), ("wide", []), run(A)])
    if (text, kind, empty, word) != ("#", "must", False, [])
] + [
    name(text, "cut", mark, word)
    for text in ("x", "1", "@", "#") for mark in ("#", "##", "^", "^^") for word in ([], bare("*/"), [("mark", "a")])
    if (text, mark, word) != ("#", "#", [])
]

WRONG_PIECES = [
    ("odd", "a"), ("odd",), ("", "a"), ("odd", [WRONG], {"a": [1]}), ("plain", "a"), ("do", [], [bare("a")], []),
    ("bare", ""), ("held", "'"), ("held", "a'b"), ("mark", "\n"), ("mark", ""), ("mark", "ab"),
    ("wide", [("plain", "")]), ("wide", [("plain", "a"), ("plain", "b")]), ("wide", [("bare", "a")]),
    ("wide", [("held", "a")]), ("wide", [("mark", "a")]), ("wide", [("wide", [])]), ("wide", [("odd", 1)]),
    ("wide", [("plain", "a"), ("plain", "")]),
    name(""), name("01"), name("00"), name("1a"), name("a-b"), name("!"), name("-"), name("##"), name("$"),
    name("x "), name("@@"), name("x\n"), name("x."), name("", "size"),
    name("x", "odd"), name("x", "odd", False, []), name("x", "odd", [WRONG]),
    name("x", "cut", "", []), name("x", "cut", "^^^", []), name("x", "cut", "###", []), name("x", "cut", "/", []),
    name("#", "must", False, []), name("#", "cut", "#", []),
    run(WRONG), run(A, ("odd",)),
] + [
    name("x", kind, empty, word)
    for kind in ("lack", "set", "must", "other") for empty in (False, True)
    for word in ([("bare", "")], [("bare", "a"), ("bare", "b")], [("plain", "a")], [("held", "'")], [run(WRONG)])
] + [name("x", "cut", "##", word) for word in ([("bare", "}")], [("bare", "a"), ("bare", "b")], [("odd", 1)])]

SETTLED_IN_WIDES = ("name", "sum", "run")


def pieces_around(piece):
    """Pieces in which a piece stands, at places where it may stand if it is one."""
    around = [name("x", kind, True, [piece]) for kind in ("lack", "set", "must", "other")]
    around += [name("1", "cut", "^", [("held", "a"), piece, ("held", "b")])]
    around += [("run", [do("a", [piece])]), ("run", [do(sets=[("x", [piece])])])]
    if piece[0] in SETTLED_IN_WIDES:
        around += [("wide", [piece]), ("wide", [("plain", "a"), piece, ("plain", "b")])]
    return around


class WordsTest(unittest.TestCase):
    def check(self, word, told):
        ahead = copy.deepcopy(word)
        self.assertIs(is_word(word), told, word)
        self.assertEqual(word, ahead)

    def test_a_word_is_not_empty(self):
        self.check([], False)

    def test_signs_of_bare_pieces(self):
        self.check(bare(BARE_SIGNS), True)
        for sign in BARE_SIGNS:
            self.check(bare(sign), True)
        for sign in OTHER_SIGNS:
            self.check(bare(sign), False)
            self.check(bare("a" + sign), False)
            self.check(bare(sign + "a"), False)

    def test_every_sign_is_bare_or_not(self):
        self.assertEqual(sorted(BARE_SIGNS + OTHER_SIGNS), sorted(ALL_SIGNS))

    def test_right_pieces_alone_and_within_one_another(self):
        for piece in RIGHT_PIECES:
            self.check([piece], True)
            self.check([("bare", "a"), piece, ("bare", "b")], True)
            for outer in pieces_around(piece):
                self.check([outer], True)
                for outermost in pieces_around(outer):
                    self.check([outermost], True)

    def test_wrong_pieces_alone_and_within_one_another(self):
        for piece in WRONG_PIECES:
            self.check([piece], False)
            self.check([("bare", "a"), piece, ("bare", "b")], False)
            for outer in pieces_around(piece):
                self.check([outer], False)
                self.check([("held", ""), outer], False)
                for outermost in pieces_around(outer):
                    self.check([outermost], False)

    def test_two_neighbours(self):
        self.check([("bare", "a"), ("bare", "b")], False)
        self.check([("held", "x"), ("bare", "a"), ("bare", "b")], False)
        self.check([("bare", "a"), ("held", ""), ("bare", "b")], True)
        self.check([("held", "a"), ("held", "b")], True)
        self.check([("mark", "a"), ("mark", "b")], True)
        self.check([("wide", []), ("wide", [])], True)
        self.check([("wide", [("plain", "a")]), ("wide", [("plain", "b")])], True)
        self.check([("wide", [("plain", "a"), name("x"), ("plain", "b")])], True)
        self.check([("wide", [name("x"), ("plain", "a"), ("plain", "b")])], False)
        self.check([("wide", [("plain", "a"), ("plain", "b"), name("x")])], False)

    def test_trees_that_would_be_shown_as_sizes_are_none(self):
        self.check([name("#", "must", False, [])], False)
        self.check([name("#", "cut", "#", [])], False)
        self.check([("wide", [name("#", "must", False, [])])], False)
        self.check([name("#", "must", True, [])], True)
        self.check([name("#", "must", False, bare("a"))], True)
        self.check([name("#", "cut", "##", [])], True)
        self.check([name("#", "cut", "#", bare("a"))], True)
        self.check([name("?", "must", False, [])], True)
        self.check([name("x", "cut", "#", [])], True)

    def test_held_with_a_quote_is_let_in_here_texts_alone(self):
        turn = (0, "<<", [("held", "it's\n")])
        self.check([("held", "it's\n")], False)
        self.check([run(do("a", turns=[turn]))], True)
        self.check([run(do("a", turns=[(0, "<", [("held", "it's\n")])]))], False)

    def test_sums(self):
        for tree in RIGHT_SUMS:
            self.check([("sum", tree)], True)
            self.check([("wide", [("sum", tree)])], True)
            for outer in sums_around(tree):
                self.check([("sum", outer)], True)
                self.check([("sum", ("minus", outer))], True)
        for tree in WRONG_SUMS:
            self.check([("sum", tree)], False)
            self.check([("wide", [("sum", tree)])], False)
            for outer in sums_around(tree):
                self.check([("sum", outer)], False)
                self.check([("sum", ("+", ("number", 1), outer))], False)

    def test_scripts_in_words(self):
        self.check([run()], True)
        self.check([run(do("a", [run(do("b", [run()]))]))], True)
        self.check([run(do("a", [run(do("b", [run(WRONG)]))]))], False)

    def test_arguments_by_name(self):
        self.assertIs(is_word(tree=bare("a")), True)
