"""[2], [3], [11], [14] and desks.py: lines that are entered and taken back, forks, elder lines, words gone on with."""

import copy
import unittest

from quotedback.desks import Desk
from quotedback.errors import DoubleName, InvalidName, InvalidWorld, NoLine, NothingToUndo, TooLong, UnknownName, Unreadable
from quotedback.names import DEEDS, TOOLS
from quotedback.readings import read_script
from quotedback.runs import dry, run
from tests.building import lists_in
from tests.test_worlds import WRONG_WORLDS
from tests.worlds_told import FILES, world


def told_of(desk):
    return (desk.world, desk.fork, desk.forks(), desk.history(), len(desk))


class DesksTest(unittest.TestCase):
    def refuse(self, desk, error, value, call, *parts):
        ahead = told_of(desk)
        with self.assertRaises(error) as caught:
            call(*parts)
        self.assertIs(caught.exception.__class__, error)
        self.assertEqual(caught.exception.value, value)
        self.assertEqual(told_of(desk), ahead)

    def test_a_new_desk(self):
        told = world(folder="/d", names={"x": "1"}, arguments=["p"], status=4)
        desk = Desk(world=told)
        self.assertEqual(told_of(desk), (told, "main", ["main"], [], 0))
        for wrong in WRONG_WORLDS:
            with self.assertRaises(InvalidWorld) as caught:
                Desk(wrong)
            self.assertEqual(caught.exception.value, wrong)
            self.assertEqual(set(lists_in(caught.exception.value)) & set(lists_in(wrong)), set())

    def test_worlds_are_not_shared(self):
        told = world(names={"x": "1"}, arguments=["p"], functions={"f": ("group", [("do", [("x", [])], [], [])], [])})
        ahead = copy.deepcopy(told)
        desk = Desk(told)
        told[0].clear()
        told[2]["x"] = "2"
        told[3].clear()
        told[6]["f"][1].clear()
        self.assertEqual(desk.world, ahead)
        desk.world[0].clear()
        desk.world[6]["f"][1].clear()
        desk.enter("true")
        desk.history().clear()
        desk.forks().append("x")
        self.assertEqual((desk.world, desk.history(), desk.forks()), (ahead, ["true"], ["main"]))
        with self.assertRaises(AttributeError):
            desk.world = told
        with self.assertRaises(AttributeError):
            desk.fork = "x"

    def test_enter(self):
        desk = Desk(world({}))
        for line, answer in (
                ("x=1; echo a; nix", ("a\n", "nix: unknown\n", 127)), ("echo $x $?", ("1 127\n", "", 0)), ("f() { echo $1; }", ("", "", 0)), ("f b", ("b\n", "", 0)),
                ("make d; cd d; set p q", ("", "", 0)), ("pwd; echo $#", ("/d\n2\n", "", 0)), ("exit 3; echo a", ("", "", 3)), ("echo $?", ("3\n", "", 0)),
                ("return 4", ("", "", 4)), ("", ("", "", 0)), ("read x; cat; echo [$x]", ("[]\n", "", 0)), ("cat <<E\n$x\nE\n", ("\n", "", 0)),
                ("echo ${y?no}; echo a", ("", "y: no\n", 1)), ("false", ("", "", 1)), ("  # nothing", ("", "", 0))):
            self.assertEqual(desk.enter(text=line), answer, line)
        self.assertEqual(desk.world, ({"/d": None}, "/d", {"x": ""}, ["p", "q"], "me", 0, {"f": read_script("f() { echo $1; }")[0][2]}))
        self.assertEqual(len(desk), 15)
        self.assertEqual(len(desk.history()), 15)

    def test_lines_that_are_refused(self):
        desk = Desk(world({}, names={"b": "b" * 400}))
        desk.enter("x=1")
        for line in ("if", "echo 'a", "a |", "a; ; b", "echo !!'", "$"):
            self.refuse(desk, Unreadable, line.replace("!!", "x=1"), desk.enter, line)
            self.refuse(desk, Unreadable, line.replace("!!", "x=1"), desk.dry_line, line)
            self.refuse(desk, Unreadable, line.replace("!!", "x=1"), desk.plan, line)
        for line in ("while true; do x=2; done", "x=$b$b$b$b$b; x=$x$x; x=$x$x"):
            self.refuse(desk, TooLong, 300, desk.enter, line)
            self.refuse(desk, TooLong, 300, desk.dry_line, line)
            desk.plan(line)
        self.assertEqual(desk.enter("for i in " + "a " * 150 + "; do true; done")[2], 0)
        self.refuse(desk, TooLong, 300, desk.enter, "for i in " + "a " * 150 + "; do true; done; true")
        for line, value in (("!!!9", "!9"), ("echo !3 !4", "!3"), ("echo !0", "!0"), ("!1; !5; !6", "!5"), ("if !7", "!7"), ("'!9' !12", "!12"), ("!000", "!000")):
            for call in (desk.enter, desk.dry_line, desk.plan):
                self.refuse(desk, NoLine, value, call, line)
        empty = Desk(world({}))
        for line, value in (("!!", "!!"), ("!1", "!1"), ("!1 !!", "!1")):
            self.refuse(empty, NoLine, value, empty.enter, line)

    def test_elder_lines(self):
        desk = Desk(world({}))
        for line, put in (
                ("echo a", "echo a"), ("!!", "echo a"), ("!! b", "echo a b"), ("!1 c; !3", "echo a c; echo a b"), ("echo '!!' \"!1\" \\!1", "echo '!!' \"echo a\" \\echo a"),
                ("echo ! !a !", "echo ! !a !"), ("echo \"'\"!!\"'\"", "echo \"'\"!!\"'\""), ("echo '!1'!1'!1'", "echo '!1'echo a'!1'"), ("!01", "echo a"), ("!1!2", "echo aecho a"),
                ("!1x2", "echo ax2"), ("echo a!=b", "echo a!=b"), ("echo '!!'", "echo '!!'"), ("!!; !!", "echo '!!'; echo '!!'"), ("!14x", "echo '!!'; echo '!!'x"), ("!15 !!", None)):
            if put is not None:
                desk.enter(line)
                self.assertEqual(desk.history()[-1], put)
        self.refuse(desk, NoLine, "!16", desk.enter, "!16")
        self.assertEqual(desk.plan("!1 >f"), ([], ["/f"]))
        self.assertEqual(desk.dry_line("!1 >f"), [("file", "/f", "a\n")])

    def test_three_marks(self):
        desk = Desk(world({}))
        desk.enter("echo a")
        desk.enter("echo b")
        self.assertEqual(desk.enter("!!!1")[0], "becho a\n")
        self.assertEqual(desk.enter("!1 !"), ("a !\n", "", 0))
        self.assertEqual(desk.history(), ["echo a", "echo b", "echo becho a", "echo a !"])

    def test_undo(self):
        desk = Desk(world({}, status=5))
        seen = [desk.world]
        for line in ("x=1", "false", "echo a >f", "f() { true; }", "remove f; unset x"):
            desk.enter(line)
            seen.append(desk.world)
        for many in range(5, 0, -1):
            self.assertEqual((len(desk), desk.world), (many, seen[many]))
            self.assertIsNone(desk.undo())
        self.assertEqual((len(desk), desk.world), (0, seen[0]))
        self.refuse(desk, NothingToUndo, 0, desk.undo)
        self.assertEqual(len(desk.history()), 5)
        self.assertEqual(desk.enter("!1; echo $x$?"), ("10\n", "", 0))
        self.assertEqual(len(desk), 1)

    def test_forks(self):
        desk = Desk(world({}))
        desk.enter("x=1")
        self.assertIsNone(desk.branch(name="b"))
        self.assertEqual((desk.fork, desk.forks(), len(desk)), ("main", ["b", "main"], 1))
        desk.enter("x=2; echo a >f")
        self.assertIsNone(desk.switch(name="b"))
        self.assertEqual((desk.fork, len(desk), desk.world[0], desk.world[2]), ("b", 1, {}, {"x": "1"}))
        desk.enter("echo $x; y=3")
        desk.branch("A")
        desk.undo()
        desk.undo()
        self.refuse(desk, NothingToUndo, 0, desk.undo)
        self.assertEqual(desk.world, world({}))
        desk.switch("main")
        self.assertEqual((len(desk), desk.world[0], desk.world[2]), (2, {"/f": "a\n"}, {"x": "2"}))
        desk.switch("A")
        self.assertEqual((len(desk), desk.world[2]), (2, {"x": "1", "y": "3"}))
        self.assertEqual(desk.enter("!!")[0], "1\n")
        self.assertEqual(desk.history(), ["x=1", "x=2; echo a >f", "echo $x; y=3", "echo $x; y=3"])
        self.assertEqual(desk.forks(), ["A", "b", "main"])
        desk.switch("A")
        self.assertEqual(desk.fork, "A")
        for name in ("", "1", "a-b", "a b", "@"):
            self.refuse(desk, InvalidName, name, desk.branch, name)
            self.refuse(desk, UnknownName, name, desk.switch, name)
        for name in ("main", "A", "b"):
            self.refuse(desk, DoubleName, name, desk.branch, name)
        self.refuse(desk, UnknownName, "c", desk.switch, "c")

    def test_forks_are_as_if_apart(self):
        lines = ["x=1; echo $x >f", "false", "cd d; set p", "cat /f $1; remove /f", "echo $? $# $x; pwd"]
        alone, desk = Desk(world()), Desk(world())
        desk.branch("b")
        for line in lines:
            wanted = alone.enter(line)
            self.assertEqual(desk.enter(line), wanted)
            desk.switch("b")
            desk.enter("x=9; echo b >/a; cd d/f; set q r; make n")
            desk.undo() if line == "false" else None
            desk.switch("main")
            self.assertEqual(desk.world, alone.world)
            self.assertEqual(len(desk), len(alone))

    def test_dry_line_and_plan(self):
        told = world(folder="/d", names={"x": "y"})
        desk = Desk(told)
        ahead = told_of(desk)
        for line in ("remove e; echo $x >n", "cd ..; make m", "exit; make m", "true"):
            self.assertEqual(desk.dry_line(text=line), dry(read_script(line), told, "", 300))
        self.assertEqual(desk.plan(text="cat e >n | tee ../a"), (["/d/e"], ["/a", "/d/n"]))
        self.assertEqual(desk.plan("cat $x"), (["*"], []))
        self.assertEqual(told_of(desk), ahead)

    def test_all_roads_of_a_run(self):
        lines = ["x=${y:-2}", "for i in a b; do echo $i$x; done >f", "count <f | tee g", "cat f g; nix", "exit $((x + 1))"]
        desk, told = Desk(world()), world()
        for line in lines:
            answer = desk.enter(line)
            told, out, err, _ = run(read_script(line), told, "", 300)
            self.assertEqual((answer, desk.world), ((out, err, told[5]), told))

    def test_complete(self):
        desk = Desk(world(folder="/d", functions={"cage": ("group", [("do", [("x", [])], [], [])], []), "zap": ("group", [("do", [("x", [])], [], [])], [])}))
        calls = sorted(DEEDS + TOOLS + ("cage", "zap"))
        paths = ["/a", "/d", "/d/e", "/d/f", "/d/f/g", "e", "f", "f/g"]
        for text, found in (
                ("", calls), ("ca", ["cage", "cat"]), ("  ca", ["cage", "cat"]), ("a; ca", ["cage", "cat"]), ("a;ca", ["cage", "cat"]), ("a |ca", ["cage", "cat"]), ("a && ca", ["cage", "cat"]),
                ("(ca", ["cage", "cat"]), ("a\nca", ["cage", "cat"]), ("a\n   ca", ["cage", "cat"]), ("z", ["zap"]), (":", [":"]), ("a; ", calls), ("cat ", paths), ("cat /d", ["/d", "/d/e", "/d/f", "/d/f/g"]),
                ("cat f", ["f", "f/g"]), ("a <f", ["f", "f/g"]), ("a >", paths), ("a > f", ["f", "f/g"]), ("<ca", []), ("a b; c d ", paths), ("nix", []), ("cat nix", []), ("{ ca", []),
                ("'ca", []), ("ca\"", []), ("$ca", []), ("c\\a", []), ("c`a", []), ("echo 'f", []), ("echo $x f", ["f", "f/g"]), ("'a' f", ["f", "f/g"]), ("a 'b;ca", ["cage", "cat"]), ("a)ca", []),
                ("x=f", []), ("a&ca", ["cage", "cat"]), ("a >f;e", ["echo", "exit"])):
            self.assertEqual(desk.complete(text=text), found, text)
        desk.enter("cd f; make h; cart() { :; }")
        self.assertEqual(desk.complete("ca"), ["cage", "cart", "cat"])
        self.assertEqual(desk.complete("list "), ["/a", "/d", "/d/e", "/d/f", "/d/f/g", "/d/f/h", "g", "h"])
        self.assertEqual(FILES, world()[0])


if __name__ == "__main__":
    unittest.main()
