"""`show_sum`: signs, and just the round brackets that are needed."""

import unittest

from quotedback.errors import InvalidTree
from quotedback.texts import show_sum, show_word
from tests.building import lists_in

ROWS = [["||"], ["&&"], ["==", "!="], ["<", "<=", ">", ">="], ["+", "-"], ["*", "/", "^"]]
SIGNS = [sign for row in ROWS for sign in row]
X, ONE = ("of", "x"), ("number", 1)


class Reader:
    """Reads a sum with the ranks and the sides that the document tells, to look at what is shown."""

    def __init__(self, text):
        for sign in "()":
            text = text.replace(sign, " " + sign + " ")
        self.marks = []
        for mark in text.split():
            while mark not in SIGNS and len(mark) > 1 and mark[0] in "-!":
                self.marks.append(mark[0])
                mark = mark[1:]
            self.marks.append(mark)
        self.at = 0

    def seen(self):
        return self.marks[self.at] if self.at < len(self.marks) else ""

    def taken(self):
        self.at += 1
        return self.marks[self.at - 1]

    def whole(self):
        tree = self.choose()
        assert self.seen() == ""
        return tree

    def choose(self):
        test = self.row(0)
        if self.seen() != "?":
            return test
        self.taken()
        one = self.choose()
        assert self.taken() == ":"
        return ("choose", test, one, self.choose())

    def row(self, rank):
        if rank == len(ROWS):
            return self.ahead()
        tree = self.row(rank + 1)
        while self.seen() in ROWS[rank]:
            sign = self.taken()
            tree = (sign, tree, self.row(rank + 1))
        return tree

    def ahead(self):
        mark = self.taken()
        if mark in ("-", "!"):
            return ("minus" if mark == "-" else "no", self.ahead())
        if mark == "(":
            tree = self.choose()
            assert self.taken() == ")"
            return tree
        if mark.isdigit():
            return ("number", int(mark))
        return ("of", mark.lstrip("$"))


def sums(depth):
    """All shapes of sums of some depth, with one sign of each rank and both of one row of one side."""
    if depth == 0:
        return [ONE, X]
    inner = sums(depth - 1)
    leaf = inner[:1]
    found = list(inner)
    for part in inner:
        found += [("minus", part), ("no", part)]
        found += [("choose", part, ONE, X), ("choose", ONE, part, X), ("choose", ONE, X, part)]
        for sign in ("||", "&&", "==", "<", "+", "-", "*", "^"):
            found += [(sign, part, X), (sign, X, part)] if depth > 1 else [(sign, leaf[0], X)]
    return found


def is_read(text):
    try:
        return Reader(text).whole()
    except (AssertionError, IndexError):
        return None


class ShowSumTest(unittest.TestCase):
    def check(self, tree, text):
        self.assertEqual(show_sum(tree), text)
        self.assertEqual(show_word([("sum", tree)]), "$((" + text + "))")

    def test_numbers_and_names(self):
        self.check(("number", 0), "0")
        self.check(("number", 10 ** 18), "1" + "0" * 18)
        self.check(("of", "x_1"), "x_1")
        for place in ("0", "1", "12", "#", "?"):
            self.check(("of", place), "$" + place)

    def test_each_sign(self):
        for sign in SIGNS:
            self.check((sign, ONE, X), "1 " + sign + " x")
        self.check(("minus", ONE), "-1")
        self.check(("no", X), "!x")
        self.check(("minus", ("minus", ("no", ("no", ("of", "#"))))), "--!!$#")
        self.check(("choose", ("of", "?"), ONE, X), "$? ? 1 : x")

    def test_which_rank_binds_more(self):
        for low, row in enumerate(ROWS):
            for high, other in enumerate(ROWS):
                for sign in row:
                    for inner in other:
                        part, text = (inner, ONE, X), "1 " + inner + " x"
                        left = text if high >= low else "(" + text + ")"
                        right = text if high > low else "(" + text + ")"
                        self.check((sign, part, X), left + " " + sign + " x")
                        self.check((sign, X, part), "x " + sign + " " + right)

    def test_signs_ahead_bind_most(self):
        for sign in SIGNS:
            self.check(("minus", (sign, ONE, X)), "-(1 " + sign + " x)")
            self.check(("no", (sign, ONE, X)), "!(1 " + sign + " x)")
            self.check((sign, ("minus", ONE), ("no", X)), "-1 " + sign + " !x")
        self.check(("minus", ("choose", X, ONE, X)), "-(x ? 1 : x)")

    def test_choose_is_read_from_the_right(self):
        part, text = ("choose", X, ONE, X), "x ? 1 : x"
        self.check(("choose", part, ONE, ONE), "(" + text + ") ? 1 : 1")
        self.check(("choose", ONE, part, ONE), "1 ? " + text + " : 1")
        self.check(("choose", ONE, ONE, part), "1 ? 1 : " + text)
        for sign in SIGNS:
            self.check((sign, part, ONE), "(" + text + ") " + sign + " 1")
            self.check((sign, ONE, part), "1 " + sign + " (" + text + ")")
            self.check(("choose", (sign, ONE, X), (sign, ONE, X), (sign, ONE, X)),
                       "1 S x ? 1 S x : 1 S x".replace("S", sign))

    def test_what_is_shown_is_read_as_it_was_and_no_bracket_can_be_left_out(self):
        for tree in sums(3)[::7] + sums(2):
            text = show_sum(tree)
            self.assertEqual(is_read(text), tree, text)
            self.assert_brackets_needed(text, tree)

    def assert_brackets_needed(self, text, tree):
        opened = []
        for at, sign in enumerate(text):
            if sign == "(":
                opened.append(at)
            elif sign == ")":
                start = opened.pop()
                without = text[:start] + text[start + 1:at] + text[at + 1:]
                self.assertNotEqual(is_read(without), tree, text)

    def test_twelve_deep_and_somewhat_beyond(self):
        for times in (11, 30):
            tree = ONE
            for _ in range(times):
                tree = ("*", ONE, ("minus", tree))
            self.check(tree, "1 * -(" * (times - 1) + "1 * -1" + ")" * (times - 1))

    def test_errors(self):
        wrong = [("number", -1), ("of", "@"), ("of", "*"), ("of", "01"), ("of", ""), ("odd", [1, [2]]), ("odd",),
                 ("**", ONE, X), ("+", ONE, ("number", -1)), ("choose", X, ("odd", {"a": []}), X), ("minus", ("of", "1x"))]
        for tree in wrong:
            with self.assertRaises(InvalidTree) as caught:
                show_sum(tree=tree)
            self.assertEqual(caught.exception.value, tree)
            self.assertEqual(set(lists_in(caught.exception.value)) & set(lists_in(tree)), set())
