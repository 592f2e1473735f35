"""`worked_out`, `names_in`, `is_steady` and `folded`."""

import unittest

from quotedback.errors import DividedByZero, InvalidTree, NoInteger, ShellError, TooGreat
from quotedback.readings import read_sum
from quotedback.sums import folded, is_steady, names_in, worked_out
from quotedback.texts import show_sum
from tests.growing import Grower

HUGE = "9" * 41
MOST = 10 ** 40 - 1
WRONG_SUMS = [
    ("number", -1), ("of", ""), ("of", "1a"), ("of", "@"), ("of", "*"), ("of", "01"), ("minus",), ("minus", ("number", -1)),
    ("%", ("number", 1), ("number", 1)), ("+", ("number", 1)), ("choose", ("number", 1), ("number", 1)), ("x", "y"),
    ("&&", ("number", 0), ("number", -1)), ("choose", ("number", 1), ("number", 1), ("of", "@")), ("no", ("of", "a b")),
]


class SumTest(unittest.TestCase):
    def check(self, text, number, names=None, arguments=()):
        with self.subTest(text=text):
            self.assertEqual(worked_out(read_sum(text), names or {}, list(arguments)), number)

    def refuse(self, error, value, text, names=None, arguments=()):
        with self.subTest(text=text):
            with self.assertRaises(ShellError) as caught:
                worked_out(read_sum(text), names or {}, list(arguments))
            self.assertIs(caught.exception.__class__, error)
            self.assertEqual(caught.exception.value, value)

    def test_signs(self):
        for text, number in (("2 * 3", 6), ("2 + 3", 5), ("2 - 3", -1), ("-2", -2), ("--2", 2), ("!0", 1), ("!1", 0), ("!-1", 0),
                             ("!!5", 1), ("-0", 0), ("2 + 3 * 4", 14), ("(2 + 3) * 4", 20), ("10 - 3 - 2", 5)):
            self.check(text, number)

    def test_quotients_and_what_is_left(self):
        for text, quotient, left in (("7 $ 3", 2, 1), ("-7 $ 3", -2, -1), ("7 $ -3", -2, 1), ("-7 $ -3", 2, -1), ("6 $ 3", 2, 0),
                                     ("-6 $ 3", -2, 0), ("1 $ 3", 0, 1), ("-1 $ 3", 0, -1), ("0 $ -3", 0, 0), ("1 $ -3", 0, 1)):
            self.check(text.replace("$", "/"), quotient)
            self.check(text.replace("$", "^"), left)

    def test_comparisons(self):
        for sign, truths in (("<", "100"), ("<=", "110"), (">", "001"), (">=", "011"), ("==", "010"), ("!=", "101")):
            for one, truth in zip(("-5", "2", "10"), truths):
                self.check(one + " " + sign + " 2", int(truth))
        self.check("3 > 2 > 1", 0)

    def test_parts_that_are_needed(self):
        self.check("0 && 1 / 0", 0)
        self.check("5 && -3", 1)
        self.check("5 && 0", 0)
        self.check("-1 || 1 / 0", 1)
        self.check("0 || 7", 1)
        self.check("0 || 0", 0)
        self.check("2 ? 3 : 1 / 0", 3)
        self.check("0 ? x : 4", 4, {"x": "a"})
        self.check("-1 ? 1 : 2", 1)
        self.refuse(DividedByZero, read_sum("1 / 0"), "1 && 1 / 0")
        self.refuse(DividedByZero, read_sum("1 / 0"), "0 || 1 / 0")
        self.refuse(NoInteger, "a", "x ? 1 : 2", {"x": "a"})

    def test_names_and_places(self):
        names = {"x": "5", "y": "", "z": "-12", "0": "7", "#": "2", "?": "255", "1": "99"}
        self.check("x", 5, names)
        self.check("y", 0, names)
        self.check("w", 0, names)
        self.check("w || !w", 1, {"w": "0"})
        self.check("z", -12, names)
        self.check("$0 + $# + $?", 264, names)
        self.check("$0 + $# + $?", 0)
        self.check("$1 * $2", 12, names, ["3", "4"])
        self.check("$3 + $999999999", 0, names, ["3", "4"])
        self.check("$10 + $1", 11, {}, ["1"] + [""] * 8 + ["10"])
        self.check("$1", 0, {"1": "9"}, [""])
        self.check("x", MOST, {"x": "9" * 40})
        self.check("x", -MOST, {"x": "-" + "9" * 40})

    def test_values_that_are_no_integers(self):
        for value in ("a", " 1", "1 ", "+1", "01", "-0", "00", "-01", "--1", "-", "1.0", "1_0", "1\n", "x", HUGE, "-" + HUGE,
                      "\u0663"):
            self.refuse(NoInteger, value, "1 + x", {"x": value})
            self.refuse(NoInteger, value, "1 + $1", {}, [value])
            self.refuse(NoInteger, value, "$0", {"0": value})

    def test_too_great(self):
        self.check(str(MOST), MOST)
        self.check("-" + str(MOST) + " - 0", -MOST)
        self.refuse(TooGreat, ("number", int(HUGE)), "1 + " + HUGE)
        self.refuse(TooGreat, ("+", ("of", "x"), ("number", 1)), "2 * (x + 1)", {"x": str(MOST)})
        self.refuse(TooGreat, read_sum("-x - 1"), "(-x - 1) * 0", {"x": str(MOST)})
        self.refuse(TooGreat, read_sum("x * x"), "x * x + 1", {"x": "1" + "0" * 20})
        self.check("x * x", 10 ** 38, {"x": "1" + "0" * 19})

    def test_what_is_come_to_first(self):
        self.refuse(DividedByZero, read_sum("1 / 0"), "1 / 0 + x", {"x": "a"})
        self.refuse(NoInteger, "a", "x + 1 / 0", {"x": "a"})
        self.refuse(NoInteger, "a", "x / 0", {"x": "a"})
        self.refuse(NoInteger, "b", "1 / y", {"y": "b"})
        self.refuse(DividedByZero, read_sum("x ^ (1 - 1)"), "2 * (x ^ (1 - 1))", {"x": "3"})
        self.refuse(TooGreat, ("number", int(HUGE)), HUGE + " / 0")
        self.refuse(DividedByZero, read_sum("2 / y"), "1 / (2 / y)")

    def test_names_in(self):
        self.assertEqual(names_in(read_sum("1")), [])
        self.assertEqual(names_in(tree=read_sum("b + $2 * a ? b : $10 && !-($# + $? - $0)")),
                         ["#", "0", "10", "2", "?", "a", "b"])
        self.assertEqual(names_in(read_sum("0 && x")), ["x"])

    def test_is_steady(self):
        for text in ("0", "1 + 2", "0 && 1 / 0", "1 ? 2 : 1 / 0", "-5 ^ 3", str(MOST)):
            self.assertIs(is_steady(read_sum(text)), True)
        for text in ("x", "0 * x", "0 && x", "1 / 0", "1 ^ (2 - 2)", HUGE, str(MOST) + " + 1", "$1", "$?"):
            self.assertIs(is_steady(tree=read_sum(text)), False)

    def test_folded(self):
        for text, shown in (
                ("1", "1"), ("x", "x"), ("2 * 3", "6"), ("x + 2 * 3", "x + 6"), ("2 - 3", "-1"), ("x * (2 - 3)", "x * -1"),
                ("--2", "2"), ("-0", "0"), ("-(x + 1 * 2)", "-(x + 2)"), ("1 + x + 2", "1 + x + 2"), ("!5", "0"),
                ("0 && x", "0"), ("(1 - 1) && x", "0"), ("1 && x", "1 && x"), ("x && 0", "x && 0"), ("-1 && x", "-1 && x"),
                ("1 || x", "1"), ("-1 || x", "1"), ("5 || x", "1"), ("0 || x", "0 || x"), ("x || 1", "x || 1"),
                ("1 ? x : y", "x"), ("0 ? x : y", "y"), ("-1 ? x + 1 + 1 : y", "x + 1 + 1"), ("0 ? x : 2 * 2 + y", "4 + y"),
                ("x ? 1 + 1 : 2 + 2", "x ? 2 : 4"), ("(0 && x) + 1", "1"), ("((1 || x) ? y : z) * (1 + 1)", "y * 2"),
                ("1 / 0", "1 / 0"), ("1 / (2 - 2)", "1 / 0"), ("1 / 0 + 2 * 3", "1 / 0 + 6"), ("0 && 1 / 0", "0"),
                ("1 && 1 / 0", "1 && 1 / 0"), ("1 || 1 / 0", "1"), ("1 ? 2 : 1 / 0", "2"), ("1 ? 1 / 0 : 2", "1 / 0"),
                (str(MOST) + " + 1", str(MOST) + " + 1"), ("0 * x", "0 * x"), ("!(0 && x)", "1"), (HUGE, HUGE),
                ("1 - (2 - 3)", "2"), ("$1 + ($# || 1 && 0)", "$1 + ($# || 0)")):
            with self.subTest(text=text):
                self.assertEqual(show_sum(folded(read_sum(text))), shown)
                self.assertEqual(folded(folded(read_sum(text))), folded(read_sum(text)))
        self.assertEqual(folded(tree=read_sum("1 - 3")), ("minus", ("number", 2)))

    def test_folded_sums_come_to_the_same(self):
        settings = [({}, []), ({"x": "3", "y1": "-2", "_z": "0", "A": "7", "if": "1", "#": "2"}, ["5", ""]), ({"x": "a"}, ["1"])]
        for seed in range(300):
            tree = Grower(seed).sum(4)
            for names, arguments in settings:
                try:
                    number = worked_out(tree, names, arguments)
                except ShellError:
                    continue
                self.assertEqual(worked_out(folded(tree), names, arguments), number, show_sum(tree))

    def test_numbers_may_grow(self):
        self.assertEqual(folded(read_sum(str(10 ** 39) + " * 9")), ("number", 9 * 10 ** 39))

    def test_what_is_no_sum(self):
        for tree in WRONG_SUMS:
            for told in (tree, ("minus", tree), ("+", ("number", 1), tree), ("&&", ("number", 0), tree),
                         ("choose", ("number", 1), ("number", 2), tree)):
                for call in (lambda: worked_out(told, {}, []), lambda: names_in(told), lambda: is_steady(told),
                             lambda: folded(told)):
                    with self.assertRaises(InvalidTree) as caught:
                        call()
                    self.assertEqual(caught.exception.value, told)

    def test_arguments(self):
        names, arguments = {"x": "1"}, ["2"]
        self.assertEqual(worked_out(tree=read_sum("x + $1"), names=names, arguments=arguments), 3)
        self.assertEqual((names, arguments), ({"x": "1"}, ["2"]))
