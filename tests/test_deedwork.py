"""What the deeds of the shell do and answer."""

import copy
import unittest

from quotedback.deedwork import MANY_LOOPS, answer_of
from quotedback.names import DEEDS
from tests.building import lists_in

WORLD = ({"/a": "1\n", "/d": None, "/d/e": None}, "/d", {"x": "1", "y": ""}, ["p", "q"], "me", 7, {})


class DeedworkTest(unittest.TestCase):
    def check(self, fields, status, out="", err="", changes=(), leap=None, text="in\n", rest="in\n", world=WORLD):
        ahead = copy.deepcopy((fields, world))
        with self.subTest(fields=fields):
            answer = answer_of(fields.split(" ") if isinstance(fields, str) else fields, world, text)
            told = (answer.status, answer.out_text, answer.err_text, answer.changes, answer.leap, answer.rest)
            self.assertEqual(told, (status, out, err, list(changes), leap, rest))
            self.assertEqual((fields, world), ahead)
            self.assertEqual(set(lists_in(told)) & set(lists_in((fields, world))), set())

    def wrong(self, *texts):
        for text in texts:
            fields = text.split(" ")
            self.check(fields, 2, err=fields[0] + ": wrong\n")

    def test_truths(self):
        for fields in (":", "true"):
            self.check(fields, 0)
            self.check(fields + " a b", 0)
        self.check("false", 1)
        self.check("false a", 1)

    def test_echo_and_pwd(self):
        self.check("echo", 0, "\n")
        self.check(["echo", "a", "", "-n"], 0, "a  -n\n")
        self.check("pwd", 0, "/d\n")
        self.check("pwd", 0, "/\n", world=({}, "/", {}, [], "", 0, {}))
        self.wrong("pwd a", "pwd ")

    def test_read(self):
        self.check("read x", 0, changes=[("set", "x", "a b")], text="a b\nc\n", rest="c\n")
        self.check("read z", 0, changes=[("set", "z", "a")], text="a", rest="")
        self.check("read z", 0, changes=[("set", "z", "")], text="\n\n", rest="\n")
        self.check("read z", 1, changes=[("set", "z", "")], text="", rest="")
        self.wrong("read", "read 1", "read x y", "read ", "read x-")

    def test_arguments(self):
        self.check("set", 0, changes=[("arguments", [])])
        self.check(["set", "a", "", "--"], 0, changes=[("arguments", ["a", "", "--"])])
        self.check("shift", 0, changes=[("arguments", ["q"])])
        self.check("shift", 1, world=({}, "/", {}, [], "", 0, {}))
        self.wrong("shift 1", "shift ")

    def test_unset(self):
        self.check("unset x", 0, changes=[("gone", "x")])
        self.check("unset y z x x unset", 0, changes=[("gone", "y"), ("gone", "x")])
        self.check("unset z", 0)
        self.check("unset unset", 0, changes=[("gone", "unset")], world=({}, "/", {"unset": ""}, [], "", 0, {}))
        self.wrong("unset", "unset x 1", "unset x ", "unset @")

    def test_cd(self):
        for field, path in (("e", "/d/e"), ("/d", "/d"), ("..", "/"), ("", "/d"), ("/", "/"), ("../d/./e/", "/d/e"), ("e/..", "/d")):
            self.check(["cd", field], 0, changes=[("folder", path)])
        self.check("cd", 0, changes=[("folder", "/")])
        for field in ("z", "/a", "../a", "/z/y", "d"):
            self.check(["cd", field], 1, err=field + ": no\n")
        self.wrong("cd a b")

    def test_test(self):
        self.check("test a", 0)
        self.check("test a = b", 1)
        self.check("test -d e", 0)
        self.check("test ! -f ../a", 1)
        self.wrong("test", "test a b", "test 1 -lt x", "test ! a b")

    def test_leaps(self):
        for name in ("break", "continue"):
            self.check(name, 0, leap=(name, 1))
            self.check(name + " 1", 0, leap=(name, 1))
            self.check(name + " 12", 0, leap=(name, 12))
            self.check(name + " 999999999", 0, leap=(name, 999999999))
            self.check(name + " 1" + "0" * 5000, 0, leap=(name, MANY_LOOPS))
            self.wrong(name + " 0", name + " -1", name + " 01", name + " a", name + " ", name + " 1 2", name + " +1")
        for name in ("return", "exit"):
            self.check(name, 7, leap=(name, 7))
            for number in (0, 1, 200, 255):
                self.check(name + " " + str(number), number, leap=(name, number))
            self.wrong(name + " 256", name + " -1", name + " 01", name + " a", name + " ", name + " 1 2", name + " 1000", name + " 1" + "0" * 5000)

    def test_each_deed_has_an_answer(self):
        for name in DEEDS:
            self.assertIn(answer_of([name], WORLD, "").status, (0, 1, 2, 7))
