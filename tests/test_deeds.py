"""The functions of deeds.py."""

import unittest

from quotedback.deeds import is_deed, said, tested
from quotedback.errors import InvalidWorld
from tests.test_worlds import WRONG_WORLDS

WORLD = ({"/a": "1\n", "/d": None, "/d/e": "", "/d/f": None}, "/d", {}, [], "me", 0, {})


class DeedsTest(unittest.TestCase):
    def check(self, status, *fields):
        self.assertEqual(tested(list(fields), WORLD), status, fields)
        if fields:
            turned = (1, 0, 2)[status]
            self.assertEqual(tested(["!"] + list(fields), WORLD), turned, fields)
            self.assertEqual(tested(["!", "!"] + list(fields), WORLD), status, fields)
            self.assertEqual(tested(["!"] * 7 + list(fields), WORLD), turned, fields)

    def test_is_deed(self):
        for name in (":", "true", "false", "echo", "read", "set", "shift", "unset", "cd", "pwd", "test", "break", "continue", "return",
                     "exit"):
            self.assertIs(is_deed(name), True)
        for name in ("", "cat", "list", "if", "Echo", "echo ", "f", "move", "[", "::"):
            self.assertIs(is_deed(name=name), False)

    def test_said(self):
        self.assertEqual(said([]), "\n")
        self.assertEqual(said([""]), "\n")
        self.assertEqual(said(fields=["a", "", "b c", "\n", "-n"]), "a  b c \n -n\n")

    def test_worlds_that_are_none(self):
        for wrong in WRONG_WORLDS:
            with self.assertRaises(InvalidWorld) as caught:
                tested(["a"], wrong)
            self.assertEqual(caught.exception.value, wrong)

    def test_texts(self):
        self.check(0, "a")
        self.check(1, "")
        self.check(0, "-n")
        self.check(0, "=")
        self.check(0, " ")
        self.check(0, "-n", "a")
        self.check(1, "-n", "")
        self.check(1, "-z", "a")
        self.check(0, "-z", "")
        self.check(1, "-z", "-n")
        self.check(0, "-n", "=")

    def test_paths(self):
        for text, is_file, is_folder in (("/a", 0, 1), ("e", 0, 1), ("./e", 0, 1), ("../a", 0, 1), ("e/", 0, 1), ("f", 1, 0), ("/d", 1, 0),
                                         ("", 1, 0), (".", 1, 0), ("..", 1, 0), ("/", 1, 0), ("/..", 1, 0), ("z", 1, 1), ("a", 1, 1),
                                         ("/z/..", 1, 0), ("e/x", 1, 1), ("f/../e", 0, 1)):
            self.check(is_file, "-f", text)
            self.check(is_folder, "-d", text)

    def test_equal_texts(self):
        self.check(0, "a", "=", "a")
        self.check(1, "a", "=", "b")
        self.check(1, "1", "=", "01")
        self.check(0, "", "=", "")
        self.check(1, "a", "!=", "a")
        self.check(0, "a", "!=", "b")
        self.check(0, "=", "=", "=")
        self.check(1, "-n", "=", "a")
        self.check(0, "(", "!=", ")")

    def test_integers(self):
        signs = ("-eq", "-ne", "-lt", "-le", "-gt", "-ge")
        numbers = [-100, -99, -11, -10, -9, -1, 0, 1, 2, 9, 10, 11, 99, 100, 10 ** 50, -10 ** 50]
        for one in numbers:
            for other in numbers:
                truths = (one == other, one != other, one < other, one <= other, one > other, one >= other)
                for sign, truth in zip(signs, truths):
                    self.check(0 if truth else 1, str(one), sign, str(other))
        for wrong in ("", "a", "01", "-0", "+1", " 1", "1 ", "1.0", "--1", "-", "1\n", "00", "\u0661"):
            for sign in signs:
                self.check(2, wrong, sign, "1")
                self.check(2, "1", sign, wrong)
                self.check(2, wrong, sign, wrong)
        self.check(0, "1" * 4500, "-lt", "2" * 4500)
        self.check(0, "-" + "2" * 4500, "-lt", "-" + "1" * 4500)

    def test_wrong_fields(self):
        self.assertEqual(tested([], WORLD), 2)
        for fields in (("-a", "b"), ("=", "a"), ("-eq", "1"), ("a", "b"), ("a", "==", "b"), ("1", "<", "2"), ("a", "-n", "b"), ("1", "eq", "1"),
                       ("a", "b", "c"), ("a", "=", "b", "c"), ("a", "b", "c", "d", "e"), ("-n", "a", "b"), ("-e", "/a"), ("a", "!"),
                       ("-n", "a", "=", "a")):
            self.check(2, *fields)

    def test_fields_judged_by_how_many_they_are(self):
        for fields, status in ((["!"], 0), (["!", "!"], 1), (["!", "!", "!"], 0), (["!", ""], 0), (["!", "a"], 1), (["!", "=", "!"], 2),
                               (["!", "=", "a"], 2), (["a", "=", "!"], 1), (["!", "!", "=", "!"], 2), (["!", "-n", ""], 0),
                               (["!", "a", "=", "b"], 0), (["a", "!", "b"], 2), (["!", "!", "-z", ""], 0), (["!", "-n"], 1)):
            self.assertEqual(tested(fields=fields, world=WORLD), status, fields)

    def test_nothing_passed_is_changed(self):
        fields = ["!", "-f", "e"]
        tested(fields, WORLD)
        said(fields)
        self.assertEqual(fields, ["!", "-f", "e"])
