"""[2], [3] and filters.py: what filters write, and what holds of rows of them for all lists of lines."""

import copy
import itertools
import random
import unittest

from quotedback.errors import InvalidFilters
from quotedback.filters import alike, filter_of, filtered, first_parted, is_row, least_row, never_writes, passing, source
from quotedback.tools import tool
from tests.building import lists_in
from tests.worlds_told import world

LOT, ANY, A, B = ("lot",), ("any",), ("one", "a"), ("one", "b")
NOT_A = ("of", True, [("a", "a")])


def keep(*pieces):
    return ("keep", list(pieces))


def drop(*pieces):
    return ("drop", list(pieces))


def swap(*pairs):
    return ("swap", [tuple(pair) for pair in pairs])


WRONG_ROWS = [
    [("cat",)], [()], [("keep",)], [("keep", [("one", "ab")])], [("drop", [("of", False, [])])], [("keep", [LOT], 1)], [("swap", [])],
    [("swap", [("a", "b"), ("a", "c")])], [("swap", [("a", "\n")])], [("swap", [("\n", "a")])], [("swap", [("ab", "c")])], [("swap", [("a", "")])],
    [("first", -1)], [("last", -1)], [("first",)], [("order", 1)], [("once", 1)], [("tee", "a")], [keep(A), ("nix",)], [("list",)], [("part", 1)],
    [("keep", 1)], [("drop", "a")], [("first", [LOT])], [("last", "1")], [("swap", 1)], [("swap", "ab")], [("swap", [LOT])], [("swap", [("one", "a")])],
    [("keep", [("one", True)])], [("keep", [("of", True)])], [("keep", [("of", "a", [("a", "b")])])], [("keep", [("of", True, "ab")])],
]
OTHER_ROWS = [[("order",)], [("once",)], [("count",)], [("number",)], [("last", 1)], [keep(A), ("last", 0)]]


class FiltersTest(unittest.TestCase):
    def refuse(self, value, call, *parts):
        ahead = copy.deepcopy(parts)
        with self.assertRaises(InvalidFilters) as caught:
            call(*parts)
        self.assertEqual(caught.exception.value, value)
        self.assertEqual(set(lists_in(caught.exception.value)) & set(lists_in(parts)), set())
        self.assertEqual(parts, ahead)

    def test_is_row(self):
        for row in ([], [keep()], [keep(A, LOT), drop(NOT_A)], [swap("ab", "ba", "cc")], [("first", 0), ("last", 5), ("order",), ("once",), ("count",), ("number",)]):
            self.assertIs(is_row(row=row), True)
        for row in WRONG_ROWS:
            self.assertIs(is_row(row), False, row)

    def test_filtered(self):
        text = "b\na\nab\n\nab"
        for row, out in (
                ([], "b\na\nab\n\nab\n"), ([keep(A, LOT)], "a\nab\nab\n"), ([drop(A, LOT)], "b\n\n"), ([swap("ab", "ba")], "a\nb\nba\n\nba\n"),
                ([("first", 2)], "b\na\n"), ([("first", 0)], ""), ([("last", 2)], "\nab\n"), ([("last", 0)], ""), ([("last", 9)], "b\na\nab\n\nab\n"),
                ([("order",)], "\na\nab\nab\nb\n"), ([("order",), ("once",)], "\na\nab\nb\n"), ([("once",)], "b\na\nab\n\nab\n"), ([("count",)], "5\n"),
                ([("number",)], "1 b\n2 a\n3 ab\n4 \n5 ab\n"), ([keep(A, LOT), ("number",), ("last", 1)], "3 ab\n"), ([keep(B), swap("ba"), keep(B)], ""),
                ([swap("ba"), keep(A), ("count",), ("count",)], "1\n"), ([swap("ab", "bc"), swap("bx")], "c\nx\nxc\n\nxc\n")):
            self.assertEqual(filtered(row=row, text=text), out, row)
        self.assertEqual(filtered([], ""), "")
        self.assertEqual(filtered([("count",)], ""), "0\n")
        self.assertEqual(filtered([], "\n"), "\n")
        for row in WRONG_ROWS:
            self.refuse(row, filtered, row, "a")

    def test_filter_of(self):
        for text, one in (
                ("keep a*", keep(A, LOT)), ("drop [!a]?", drop(NOT_A, ANY)), ("keep \\*", keep(("one", "\\"), LOT)), ("swap ab ba", swap("ab", "ba")), ("swap a a", swap("aa")), ("first 3", ("first", 3)),
                ("last 0", ("last", 0)), ("first 999999999", ("first", 999999999)), ("order", ("order",)), ("once", ("once",)), ("count", ("count",)), ("number", ("number",)),
                ("cat", None), ("tee f", None), ("part 1 :", None), ("keep", None), ("keep a b", None), ("first", None), ("first -1", None), ("first 01", None),
                ("first 1000000000", None), ("last x", None), ("swap a bc", None), ("swap aa bc", None), ("order a", None), ("nix", None), ("echo a", None), ("list", None)):
            fields = text.split(" ")
            self.assertEqual(filter_of(fields=fields), one, text)
        for fields in ([], [""], ["swap", "", ""], ["swap", "\n", "a"], ["swap", "a", "\n"], ["swap", "ab", "a\n"]):
            self.assertIsNone(filter_of(fields))
        self.assertEqual(filter_of(["keep", ""]), keep())
        self.assertEqual(filter_of(["keep", "\n"]), keep(("one", "\n")))

    def test_filters_do_what_tools_do(self):
        for fields in (["keep", "a*"], ["drop", "?"], ["swap", "ab", "bc"], ["first", "2"], ["last", "2"], ["order"], ["once"], ["count"], ["number"], ["keep", "*[b-z]"]):
            for text in ("", "a", "b\na\nab\n\nab", "\n", "x\nx\nb\n"):
                self.assertEqual(filtered([filter_of(fields)], text), tool(fields, world(), text)[1])

    def test_first_parted(self):
        for one, other, lines in (
                ([], [], None), ([], [drop()], [""]), ([], [keep()], [" "]), ([], [drop(A)], ["a"]), ([], [("first", 0)], [""]), ([], [("first", 2)], ["", "", ""]),
                ([], [swap("ab")], ["a"]), ([swap("ab", "ba")], [swap("ba", "ab")], None), ([swap("ab"), swap("bc")], [swap("ac", "bc")], None),
                ([swap("ab"), keep(B)], [keep(("of", False, [("a", "b")])), swap("ab")], None), ([keep(A), swap("ab")], [swap("ab"), keep(B)], ["b"]),
                ([keep(LOT)], [], None), ([drop(LOT)], [("first", 0)], None), ([drop(LOT)], [keep(("of", True, [("\n", "~")]))], None),
                ([keep(("one", "\n"))], [drop(LOT)], None), ([keep(A), ("first", 1)], [("first", 1), keep(A)], ["", "a"]),
                ([drop(A), ("first", 1)], [("first", 1), drop(A)], ["a", ""]), ([("first", 2), ("first", 1)], [("first", 1)], None),
                ([("first", 2), drop(), ("first", 1)], [("first", 1), drop()], ["", " "]), ([("first", 2), drop(), ("first", 1)], [drop(), ("first", 1)], ["", "", " "]),
                ([keep(A), keep(B)], [("first", 0)], None), ([keep(A, LOT), keep(LOT, B)], [keep(A, LOT, B)], None), ([keep(A, LOT), keep(LOT, A)], [keep(A, LOT, A)], ["a"]),
                ([drop(ANY), drop(ANY, ANY)], [drop(ANY, ANY), drop(ANY)], None), ([drop(ANY, ANY, ANY)], [], ["   "]), ([keep(LOT, A)], [keep(LOT, NOT_A)], [" "]),
                ([swap("a ")], [swap("a!")], ["a"]), ([swap(" a")], [], [" "]), ([swap("aa")], [], None)):
            ahead = copy.deepcopy((one, other))
            self.assertEqual(first_parted(one=one, other=other), lines, (one, other))
            self.assertEqual(first_parted(other, one), lines)
            self.assertIs(alike(one=one, other=other), lines is None)
            self.assertEqual((one, other), ahead)

    def test_never_writes(self):
        for row, truth in (
                ([], False), ([("first", 0)], True), ([("first", 1)], False), ([keep(A), drop(A)], True), ([keep(A), keep(B)], True), ([keep(A, LOT), keep(LOT, B)], False),
                ([swap("ab"), keep(A)], True), ([swap("ab"), keep(B)], False), ([drop(LOT)], True), ([drop(LOT, ANY)], False), ([drop(LOT, ANY), drop()], True),
                ([keep(("one", "\n"))], True), ([keep(("of", False, [("\n", "\n")]), LOT)], True), ([keep(("of", False, [("\n", " ")]), LOT)], False),
                ([("first", 3), keep(A), ("first", 0)], True), ([keep(A)] + [drop(LOT, B)] * 9, False), ([swap("ab", "bc", "ca"), keep(A), swap("ab"), drop(B)], True)):
            self.assertIs(never_writes(row=row), truth, row)

    def test_source(self):
        for row, lines, found in (
                ([], [], []), ([("first", 0)], [], []), ([drop(LOT)], [], []), ([], ["a", "", "b"], ["a", "", "b"]), ([("first", 2)], ["a", "b"], ["a", "b"]),
                ([("first", 2)], ["a", "b", "c"], None), ([swap("ab")], ["b", "bb"], ["a", "aa"]), ([swap("ba")], ["a"], ["a"]), ([swap("ab")], ["a"], None),
                ([swap("cb", "ab")], ["b"], ["a"]), ([drop(A), swap("ab")], ["b"], ["b"]), ([drop(A, LOT), swap("ab")], ["bb"], ["ba"]),
                ([drop(LOT, A, LOT), swap("ab")], ["bb"], ["bb"]), ([keep(A)], ["b"], None), ([keep(A), ("first", 1)], ["a"], ["a"]),
                ([swap("ab", "ba"), keep(A)], ["a"], ["b"]), ([swap("ab"), keep(B, LOT), swap("bc")], ["cc", "c"], ["aa", "a"]), ([swap("ab"), keep(B, LOT), swap("bc")], ["b"], None),
                ([swap("! "), drop(("one", " "))], [" ", ""], None), ([swap("! ")], [" "], [" "])):
            ahead = copy.deepcopy((row, lines))
            self.assertEqual(source(row=row, lines=lines), found, (row, lines))
            self.assertEqual((row, lines), ahead)
        self.assertEqual(source([swap("ab"), keep(LOT, B)], ["b" * 400]), ["a" * 400])

    def test_least_row(self):
        a = keep(A, LOT)
        for row, least in (
                ([], []), ([a], [a]), ([a, a, a], [a]), ([keep(LOT)], []), ([swap("aa"), keep(LOT)], []), ([("first", 3), ("first", 1), ("first", 2)], [("first", 1)]),
                ([("first", 2), a, ("first", 2)], [("first", 2), a]), ([a, ("first", 2), a, ("first", 3)], [a, ("first", 2)]), ([keep(A), keep(B), a], [keep(A), keep(B)]),
                ([("first", 0), a], [("first", 0)]), ([a, keep(A)], [keep(A)]), ([drop(A), drop(B), drop(A)], [drop(A), drop(B)]), ([swap("ab"), drop(A)], [swap("ab")]),
                ([swap("ab"), swap("ab"), keep(B)], [swap("ab"), keep(B)]), ([swap("ab", "ba"), swap("ab", "ba")], []), ([drop(A), swap("ab"), drop(A)], [drop(A), swap("ab")])):
            got = least_row(row=row)
            self.assertEqual(got, least, row)
            self.assertEqual(set(lists_in(got)) & set(lists_in(row)), set())

    def test_passing(self):
        a = keep(A, LOT)
        for one, other, truth in (
                (a, a, True), (a, drop(B), True), (a, swap("ab"), False), (a, swap("bc"), True), (("first", 1), a, False), (("first", 1), ("first", 2), True),
                (("first", 1), swap("ab"), True), (("first", 0), a, True), (swap("ab"), swap("bc"), False), (swap("ab"), swap("cd"), True), (swap("ab", "ba"), swap("cc"), True),
                (drop(LOT), swap("ab"), True), (keep(LOT), ("first", 1), True), (swap("ab", "ba"), keep(("of", False, [("a", "b")])), True)):
            self.assertIs(passing(one=one, other=other), truth, (one, other))
            self.assertIs(passing(other, one), truth)

    def test_refusals(self):
        for row in WRONG_ROWS + OTHER_ROWS:
            for call in (never_writes, least_row, lambda told: source(told, ["a"]), lambda told: first_parted([keep(A)], told), lambda told: alike(told, [keep(A)]),
                         lambda told: alike(told, [("cat",)]), lambda told: first_parted(told, WRONG_ROWS[0])):
                self.refuse(row, call, row)
            self.refuse([row[0], keep(A)] if len(row) == 1 else [row[1], keep(A)], passing, row[-1], keep(A))
            self.refuse([keep(A), row[-1]], passing, keep(A), row[-1])

    def test_against_all_short_lists(self):
        lines = ["", " ", "a", "b", " a", "aa", "ab", "ba", "bb"]
        chance = random.Random(5)
        parted = 0
        for _ in range(300):
            one, other = self.grown(chance), self.grown(chance)
            if chance.random() < 0.6:
                other = [told for told in one if chance.random() < 0.8]
            found = first_parted(one, other)
            if found is not None:
                parted += 1
                self.assertNotEqual(self.written(one, found), self.written(other, found))
            for size in range(4 if found is None else len(found) + 1):
                for told in itertools.product(lines if size < 3 else lines[1:4], repeat=size):
                    if self.written(one, told) != self.written(other, told):
                        self.assertIsNotNone(found, (one, other, told))
                        self.assertLessEqual((len(found), [(len(line), line) for line in found]), (size, [(len(line), line) for line in told]))
            least = least_row(one)
            self.assertTrue(alike(one, least))
            for told in itertools.product(["", "a", "b", "ab"], repeat=2):
                ahead = source(one, list(told))
                if ahead is not None:
                    self.assertEqual(self.written(one, ahead), "".join(line + "\n" for line in told))
                possible = [row for row in itertools.product(lines, repeat=2) if self.written(one, row) == "".join(line + "\n" for line in told)]
                if possible:
                    self.assertLessEqual([(len(line), line) for line in ahead], [(len(line), line) for line in possible[0]])
        self.assertGreater(parted, 50)

    def written(self, row, lines):
        return filtered(row, "".join(line + "\n" for line in lines))

    def grown(self, chance):
        row = []
        for _ in range(chance.randint(0, 3)):
            pattern = [chance.choice([LOT, LOT, ANY, A, B, NOT_A, ("one", " ")]) for _ in range(chance.randint(0, 3))]
            row.append(chance.choice([("keep", pattern), ("drop", pattern), ("first", chance.randint(0, 2)), swap("ab"), swap("ab", "ba")]))
        return row


if __name__ == "__main__":
    unittest.main()
