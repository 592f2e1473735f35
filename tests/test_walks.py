"""[2], [3], [12] to [16] and runs.py: runs walked step by step, and gone on with from anywhere."""

import copy
import unittest

from quotedback.errors import Done, InvalidTree, InvalidWorld, TooLong
from quotedback.readings import read_script
from quotedback.runs import Walk, run
from tests.building import WRONG, A, lists_in
from tests.test_worlds import WRONG_WORLDS
from tests.worlds_told import world


def walk_of(text, told=None, reads=""):
    return Walk(read_script(text), world({}) if told is None else told, reads)


def told_of(walk):
    return (walk.standing(), walk.out(), walk.err(), walk.events(), walk.is_done(), len(walk), walk.next_fields())


class WalksTest(unittest.TestCase):
    def check(self, text, stands, told=None, reads=""):
        """Checks where a walk stands: for each place the events that are new there, and the fields of the next step."""
        with self.subTest(text=text):
            walk = walk_of(text, told, reads)
            seen = 0
            for events, fields in stands[:-1]:
                self.assertIs(walk.is_done(), False)
                self.assertEqual((walk.events()[seen:], walk.next_fields()), (events, fields))
                seen = len(walk.events())
                self.assertIsNone(walk.step())
            self.assertIs(walk.is_done(), True)
            self.assertEqual((walk.events()[seen:], walk.next_fields()), stands[-1])
            self.assertEqual(len(walk), len(stands) - 1)
            self.assertEqual((walk.standing(), walk.out(), walk.err(), walk.events()), run(read_script(text), world({}) if told is None else told, reads, 300))

    def test_empty_ones(self):
        self.check("", [([("end", 0)], None)])
        self.check("f() { true; }; case a in *) ;; esac; for x in; do true; done; { (case ${y=1} in esac) >f; } >g", [
            ([("file", "/g", ""), ("file", "/f", ""), ("set", "y", "1"), ("end", 0)], None)])

    def test_plain_steps(self):
        self.check("echo a; false; x=1", [
            ([], ["echo", "a"]), ([("do", ["echo", "a"]), ("say", 1, "a\n")], ["false"]), ([("do", ["false"])], None), ([("set", "x", "1"), ("end", 0)], None)])
        self.check("f() { echo $1; }; f a; nix", [
            ([], ["f", "a"]), ([("do", ["f", "a"])], ["echo", "a"]), ([("do", ["echo", "a"]), ("say", 1, "a\n")], ["nix"]),
            ([("do", ["nix"]), ("say", 2, "nix: unknown\n"), ("end", 127)], None)])

    def test_what_comes_ahead_of_a_step(self):
        self.check("{ echo a; } >f", [([("file", "/f", "")], ["echo", "a"]), ([("do", ["echo", "a"]), ("file", "/f", "a\n"), ("end", 0)], None)])
        self.check("echo a ${x=1} >f${y=2}", [
            ([], ["echo", "a", "1"]),
            ([("set", "x", "1"), ("do", ["echo", "a", "1"]), ("set", "y", "2"), ("file", "/f2", ""), ("file", "/f2", "a 1\n"), ("end", 0)], None)])
        self.check("case ${x=1} in ${y=2}) ;; $x) echo ${z=3};; esac", [
            ([("set", "x", "1"), ("set", "y", "2")], ["echo", "3"]),
            ([("set", "z", "3"), ("do", ["echo", "3"]), ("say", 1, "3\n"), ("end", 0)], None)])
        self.check("true; { echo b; } <f; echo c", [
            ([], ["true"]), ([("do", ["true"]), ("say", 2, "f: no\n")], ["echo", "c"]), ([("do", ["echo", "c"]), ("say", 1, "c\n"), ("end", 0)], None)])

    def test_rounds(self):
        self.check("for x in a ${y=b}; do true; done", [
            ([("set", "y", "b")], None), ([("set", "x", "a")], ["true"]), ([("do", ["true"])], None), ([("set", "x", "b")], ["true"]),
            ([("do", ["true"]), ("end", 0)], None)])
        self.check("while read x; do echo $x; done", [
            ([], None), ([], ["read", "x"]), ([("do", ["read", "x"]), ("set", "x", "a")], ["echo", "a"]), ([("do", ["echo", "a"]), ("say", 1, "a\n")], None),
            ([], ["read", "x"]), ([("do", ["read", "x"]), ("set", "x", ""), ("end", 0)], None)], reads="a\n")
        self.check("for x in a b; do break; done; true", [
            ([], None), ([("set", "x", "a")], ["break"]), ([("do", ["break"])], ["true"]), ([("do", ["true"]), ("end", 0)], None)])

    def test_runs_in_words(self):
        self.check("echo a${x=1}$(echo b)${y=2}", [
            ([("set", "x", "1")], ["echo", "b"]), ([("do", ["echo", "b"])], ["echo", "a1b2"]),
            ([("set", "y", "2"), ("do", ["echo", "a1b2"]), ("say", 1, "a1b2\n"), ("end", 0)], None)])
        self.check("x=$(true) z=2 echo ${w=1} >f", [
            ([("set", "w", "1"), ("do", ["echo", "1"]), ("file", "/f", "")], ["true"]), ([("do", ["true"])], ["echo", "1"]),
            ([("set", "x", ""), ("set", "z", "2"), ("file", "/f", "1\n"), ("end", 0)], None)])
        self.check("echo $(true; true) $(:)", [
            ([], ["true"]), ([("do", ["true"])], ["true"]), ([("do", ["true"])], [":"]), ([("do", [":"])], ["echo"]),
            ([("do", ["echo"]), ("say", 1, "\n"), ("end", 0)], None)])
        self.check("echo $() $(f() { :; }) >f", [
            ([], ["echo"]), ([("do", ["echo"]), ("file", "/f", ""), ("file", "/f", "\n"), ("end", 0)], None)])
        self.check("for x in $(echo a); do :; done", [
            ([], ["echo", "a"]), ([("do", ["echo", "a"])], None), ([("set", "x", "a")], [":"]), ([("do", [":"]), ("end", 0)], None)])
        self.check("{ :; } >f$(echo a)", [
            ([], ["echo", "a"]), ([("do", ["echo", "a"]), ("file", "/fa", "")], [":"]), ([("do", [":"]), ("end", 0)], None)])

    def test_next_fields(self):
        for text in ("x=1", ">f", "$e", "echo ${x?no}", "$(( 1 / 0 ))", "echo ${1=a}", "for x in a; do true; done", "while true; do true; done", "",
                     "echo $b$b", "set $m $m"):
            told = world({}, names={"b": "b" * 3000, "m": "m " * 150})
            walk = walk_of(text, told)
            ahead = walk.events()
            self.assertIsNone(walk.next_fields(), text)
            self.assertIsNone(walk.next_fields(), text)
            self.assertEqual(walk.events(), ahead)
        walk = walk_of("echo ${x=1} >f")
        ahead = told_of(walk)
        fields = walk.next_fields()
        fields.append("c")
        self.assertEqual((walk.next_fields(), told_of(walk)), (["echo", "1"], ahead))
        self.assertEqual(walk_of("echo a <none").next_fields(), ["echo", "a"])
        self.assertEqual(walk_of("read x", reads="").next_fields(), ["read", "x"])

    def test_standing(self):
        told = world(folder="/d", names={"x": "1"}, arguments=["p"], status=7)
        walk = walk_of("f() { cd f; true $1; }; x=2 y=3 f a b", told)
        self.assertEqual(walk.standing(), told[:5] + (0, {"f": read_script("f() { cd f; true $1; }")[0][2]},))
        walk.step()
        self.assertEqual(walk.standing()[1:6], ("/d", {"x": "2", "y": "3"}, ["a", "b"], "me", 0))
        walk.step()
        self.assertEqual(walk.standing()[1:6], ("/d/f", {"x": "2", "y": "3"}, ["a", "b"], "me", 0))
        walk.step()
        self.assertEqual(walk.standing()[1:6], ("/d/f", {"x": "1"}, ["p"], "me", 0))
        walk = walk_of("x=3; (x=4; set q r; cd f; false; remove ..; true); true", told)
        stands = []
        while not walk.is_done():
            stands.append((walk.standing()[1:6], sorted(walk.standing()[0])))
            walk.step()
        same = ("/d", {"x": "3"}, ["p"], "me", 0)
        files = ["/a", "/d", "/d/e", "/d/f", "/d/f/g"]
        self.assertEqual(stands[1:], [(same, files)] * 5 + [(("/", *same[1:]), ["/a"])] * 2)
        walk = walk_of("false; echo ${z=5}$(x=6; true; true)", told)
        walk.step()
        for _ in range(3):
            self.assertEqual(walk.standing()[1:6], ("/d", {"x": "1", "z": "5"}, ["p"], "me", 1))
            walk.step()
        self.assertEqual(walk.next_fields(), ["echo", "5"])

    def test_out_and_err(self):
        walk = walk_of("echo a; nix; echo b >&2; echo c | cat; echo $(echo d)")
        seen = []
        while not walk.is_done():
            walk.step()
            seen.append((walk.out(), walk.err()))
        err = "nix: unknown\nb\n"
        self.assertEqual(seen, [("a\n", ""), ("a\n", "nix: unknown\n"), ("a\n", err), ("a\n", err), ("a\nc\n", err), ("a\nc\n", err), ("a\nc\nd\n", err)])

    def test_copies(self):
        text = "f() { read x; echo $x; }; y=1 f <<E\na\nb\nE\nfor x in $(echo p q); do echo $x | tee f | cat; done; { cat f; nix; } 2>g; cat g"
        whole = run(read_script(text), world({}), "", 300)
        walk = walk_of(text)
        while not walk.is_done():
            ahead = told_of(walk)
            twin = walk.copy()
            self.assertEqual(told_of(twin), ahead)
            while not twin.is_done():
                twin.step()
            self.assertEqual((twin.standing(), twin.out(), twin.err(), twin.events()), whole)
            self.assertEqual(told_of(walk), ahead)
            walk.step()
        self.assertEqual((walk.standing(), walk.out(), walk.err(), walk.events()), whole)
        self.assertEqual(told_of(walk.copy()), told_of(walk))
        self.assertNotEqual(walk, walk.copy())

    def test_done(self):
        walk = walk_of("echo a")
        walk.step()
        ahead = told_of(walk)
        for _ in range(2):
            with self.assertRaises(Done) as caught:
                walk.step()
            self.assertEqual(caught.exception.value, 0)
            self.assertEqual(told_of(walk), ahead)
        with self.assertRaises(Done):
            walk_of("").step()

    def test_runs_that_never_end(self):
        walk = walk_of("while true; do :; done")
        for many in range(1000):
            self.assertEqual((len(walk), walk.is_done()), (many, False))
            walk.step()

    def too_long(self, text, steps, told=None, reads=""):
        """Checks that a step, and each one tried again, raises an error, ahead of which so many steps are done."""
        with self.subTest(text=text):
            told = world({"/b": "b" * 4000}, names={"b": "b" * 4000, "h": "h" * 2000, "m": "m " * 150}) if told is None else told
            walk = walk_of(text, told, reads)
            for _ in range(steps):
                walk.step()
            ahead = told_of(walk)
            for _ in range(2):
                with self.assertRaises(TooLong) as caught:
                    walk.step()
                self.assertEqual(caught.exception.value, 0)
                self.assertEqual(told_of(walk), ahead)

    def test_sizes(self):
        self.too_long("x=1$b", 0)
        self.too_long("true; x=1$b; true", 1)
        self.too_long("echo a >f; echo 1$b", 1)
        self.too_long("echo a >f; echo $b >g", 1)
        self.too_long("echo $(true) ${x=1} 1$b >g", 1)
        self.too_long("x=$(true) y=1$b echo >g", 1)
        self.too_long("true; for x in 1$b; do true; done", 0)
        self.too_long("true; true; { for x in $m $m; do true; done; } >f", 1)
        self.too_long("cat b; cat b | cat; { cat b; echo; } | cat", 4)
        self.too_long("true; case $(true)${x=1$b} in *) ;; esac", 1)
        self.too_long("true; f() { f; }; f", 21)
        self.too_long("true; " + "(" * 21 + "true" + ")" * 21, 0)
        for text in ("for x in 1$b; do true; done", "(" * 21 + "true" + ")" * 21, "case ${x=1$b} in *) true;; esac", "echo " + "$(echo " * 21 + ")" * 21):
            with self.assertRaises(TooLong) as caught:
                walk_of(text, world({}, names={"b": "b" * 4000}))
            self.assertEqual(caught.exception.value, 0)

    def test_errors(self):
        with self.assertRaises(InvalidTree) as caught:
            Walk([A, WRONG], WRONG_WORLDS[0], "")
        self.assertEqual(caught.exception.value, [A, WRONG])
        with self.assertRaises(InvalidWorld) as caught:
            Walk(script=[A], world=WRONG_WORLDS[0], text="")
        self.assertEqual(caught.exception.value, WRONG_WORLDS[0])

    def test_what_is_passed_is_not_kept(self):
        script, told = read_script("f() { echo $1; }; f a; g; echo $x $1"), world(names={"x": "1"}, arguments=["p"], functions={"g": ("group", [A], [])})
        ahead = copy.deepcopy((script, told))
        walk = Walk(script, told, "")
        self.assertEqual((script, told), ahead)
        result = (walk.standing(), walk.events(), walk.next_fields())
        self.assertEqual(set(lists_in(result)) & set(lists_in((script, told))), set())
        script[1][2][0][0] = ("bare", "nix")
        script.pop()
        told[0].clear()
        told[2]["x"] = "2"
        told[3].append("q")
        told[6]["g"][1].append(A)
        walk.standing()[2]["x"] = "3"
        walk.standing()[6]["f"][1].clear()
        walk.standing()[3].clear()
        walk.step()
        walk.events()[0][1].append("q")
        walk.events().clear()
        while not walk.is_done():
            walk.step()
        self.assertEqual((walk.standing(), walk.out(), walk.err(), walk.events()), run(*ahead, "", 99))


if __name__ == "__main__":
    unittest.main()
