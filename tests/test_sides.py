"""[12], [14] to [16], runs.py and races.py: the sides of a pipe side by side, what they touch, and which orders race."""

import copy
import itertools
import unittest

from quotedback.errors import InvalidNumber, InvalidOrder, InvalidPath, InvalidTree, InvalidWorld, TooLong
from quotedback.races import is_apart, race, touched
from quotedback.readings import read_script
from quotedback.runs import pipe_in_turns, run
from quotedback.texts import show_script
from quotedback.trees import is_script
from quotedback.worlds import is_world
from tests.building import WRONG, A, do, lists_in
from tests.growing_runs import RunGrower
from tests.test_worlds import WRONG_WORLDS
from tests.worlds_told import FILES, world


def in_turns(text, order, told=None, reads="", limit=300):
    return pipe_in_turns(read_script(text)[0][1], world({}) if told is None else told, reads, order, limit)


class SidesTest(unittest.TestCase):
    def log(self, text, order, lines, files=None, reads="", out=None):
        """Checks the lines that the sides have written to the file /log, one letter or figure each."""
        with self.subTest(text=text, order=order):
            told = world({"/log": "", **(files or {})})
            got = in_turns(text, order, told, reads)
            self.assertEqual("".join(got[0]["/log"].split("\n")), lines)
            if out is not None:
                self.assertEqual(got[1], out)

    def test_orders(self):
        text = "{ echo 1 >>log; echo a; echo 2 >>log; echo b; echo 3 >>log; } | { read x; echo $x >>log; read y; echo $y >>log; }"
        self.log(text, [0, 1], "12a3b")
        self.log(text, [1, 0], "12a3b")
        self.log(text, [0, 1, 1], "1a2b3")
        self.log(text, [0, 0, 0, 0, 0, 1], "123ab")
        text = "{ echo 1 >>log; echo 2 >>log; } | { echo 3 >>log; echo 4 >>log; } | { echo 5 >>log; }"
        self.log(text, [0, 1, 2], "13524")
        self.log(text, [2, 1, 0], "53142")
        self.log(text, [1, 0, 1, 2], "31452")
        self.log(text, [0, 0, 1, 2], "12354")

    def test_waiting(self):
        self.log("{ echo 1 >>log; echo a; echo 2 >>log; } | { cat; echo 3 >>log; }", [1, 0], "123", out="a\n")
        self.log("{ echo 1 >>log; echo a; echo 2 >>log; true; true; } | { read x; echo $x >>log; }", [1, 0], "12a")
        self.log("{ cat f; echo 1 >>log; cat f; echo 2 >>log; echo; echo 3 >>log; true; true; } | { read x; echo [$x] >>log; }", [0, 1], "123[aa]", files={"/f": "a"})
        self.log("{ cat f; echo 1 >>log; } | { read x; echo [$x] >>log; }", [1, 0], "1[a]", files={"/f": "a"})
        self.log("{ echo a; echo 1 >>log; echo b; echo 2 >>log; echo c; echo 3 >>log; echo 4 >>log; } | { first 2; echo 5 >>log; }", [0, 1], "12534", out="a\nb\n")
        self.log("{ echo a; echo 1 >>log; } | { first 2; echo 5 >>log; }", [1, 0], "15", out="a\n")
        self.log("{ true; echo 1 >>log; } | { echo $(cat) 5 >>log; }", [1, 0], "15")
        self.log("{ true; echo 1 >>log; } | { x=$(read x; echo 5 >>log); }", [1, 0], "15")
        self.log("f() { cat; } | { f() { cat; echo 3 >>log; }; f; } | { echo 5 >>log; cat; echo 4 >>log; }", [2, 1, 0], "534")
        # What waits has done nothing, its turns, too.
        self.log("{ test -f f && echo 1 >>log; true; } | cat >f", [1, 0], "")
        self.log("{ true; test -f f && echo 1 >>log; echo a; } | { true; cat; } >f", [1, 0], "1")

    def test_what_does_not_wait(self):
        for words in ("keep", "first", "first 0", "cat log log", "make f", "read", "read 1", "list", "first 1 1", "nix", "order x", "copy log f", "echo", "cat <log", "pwd"):
            self.log("{ true; true; echo 1 >>log; } | { " + words + "; echo 2 >>log; }", [1, 0], "21")
            self.log("{ true; true; echo 1 >>log; } | { echo a | " + words + "; echo 2 >>log; }", [0, 1, 1], "21")
        self.log("{ true; true; echo 1 >>log; } | { cat; echo 2 >>log; } <log", [1, 0], "21")
        self.log("{ true; true; echo 1 >>log; } | { cat 0>&-; echo 2 >>log; }", [1, 0], "21")
        self.log("{ cat; echo 1 >>log; } | { true; true; echo 2 >>log; }", [0, 1], "12", reads="a")

    def test_what_is_lost(self):
        got = in_turns("{ true; true; true; true; echo a; echo b >f; } | { read x <g; true; }", [0, 1], world({"/g": "x\n"}))
        self.assertEqual(got, ({"/g": "x\n", "/f": "b\n"}, "", ["", ""], 0))
        self.assertEqual(in_turns("{ echo a; echo b; } | first 1", [0, 1])[1], "a\n")
        self.assertEqual(in_turns("{ echo a; true; echo b; nix; } | { first 1; exit 3; } | cat", [0, 1, 2]), ({}, "a\n", ["nix: unknown\n", "", ""], 0))

    def test_what_is_returned(self):
        self.assertEqual(in_turns("{ echo a; nix; } | { cat; nix; echo b >&2; exit 3; }", [0, 1]), ({}, "a\n", ["nix: unknown\n", "nix: unknown\nb\n"], 3))
        told = world(names={"x": "1"}, arguments=["p"], status=5, functions={"f": ("group", [do("echo", [("name", "x", ())])], [])})
        self.assertEqual(in_turns("{ x=2; cd d; set q; } | { echo $x $1 $?; pwd; f; }", [0, 1], told), (FILES, "1 p 5\n/\n1\n", ["", ""], 0))
        self.assertEqual(in_turns("cat | cat | cat", [2, 1, 0], reads="a\nb")[1], "a\nb")
        self.assertEqual(in_turns("f() { a; } | case a in esac", [1, 0]), ({}, "", ["", ""], 0))

    def test_what_comes_ahead_of_the_first_steps(self):
        self.assertEqual(in_turns("{ true; } >f | { test -f f && echo a; }", [1, 0])[1], "a\n")
        self.assertEqual(in_turns("true >f | { test -f f && echo a; }", [1, 0])[1], "")
        self.assertEqual(in_turns("{ test -f f && echo a >&2; } | { true; } >f", [0, 1])[2], ["a\n", ""])
        self.assertEqual(in_turns("{ true; } >f/n | { true; } >f", [1, 0])[2], ["f/n: no\n", ""])
        self.assertEqual(in_turns("{ true; } >f | { true; } <f", [1, 0])[2], ["", ""])

    def test_files_and_folders_are_the_same_for_all(self):
        self.assertEqual(in_turns("{ true; remove /d; } | { true; true; true; pwd; }", [0, 1], world(folder="/d/f"))[1], "/\n")
        self.assertEqual(in_turns("{ remove ../f; make ../f; } | { true; true; true; pwd; }", [0, 1], world(folder="/d/f"))[1], "/d\n")
        # A turn can be done behind the one ahead of it, so that a script in a set is met after all.
        self.assertEqual(in_turns("{ true; echo a >f; } | { true; x=$(echo b >&2) echo <f; }", [0, 0, 1])[2], ["", "b\n"])

    def test_steps_and_sizes(self):
        for text, many in (("true | true", 2), ("{ true; true; } | true | { for x in 1 2; do true; done; }", 7), ("f() { a; } | case a in esac", 0)):
            for order in itertools.permutations(range(len(read_script(text)[0][1]))):
                in_turns(text, list(order), limit=many)
                if many > 0:
                    with self.assertRaises(TooLong) as caught:
                        in_turns(text, list(order), limit=many - 1)
                    self.assertEqual(caught.exception.value, many - 1)
        told = world({"/b": "b" * 4000}, names={"b": "b" * 4000})
        for text in ("true | x=1$b", "{ cat b; echo; } | count", "true | { while true; do true; done; }", "for x in 1$b; do true; done | true",
                     "true | " + "(" * 20 + "true" + ")" * 20):
            with self.assertRaises(TooLong) as caught:
                in_turns(text, [1, 0], told, limit=77)
            self.assertEqual(caught.exception.value, 77)
        self.assertEqual(in_turns("true | " + "(" * 19 + "exit 5" + ")" * 19, [0, 1])[3], 5)

    def test_errors(self):
        good = world({})
        for commands in ([], [A], [A, WRONG], [A, ("pipe", [A, A])], [("not", A), A]):
            with self.assertRaises(InvalidTree) as caught:
                pipe_in_turns(commands=commands, world=WRONG_WORLDS[0], text="", order=[], limit=-1)
            self.assertEqual(caught.exception.value, commands)
            self.assertEqual(set(lists_in(caught.exception.value)) & set(lists_in(commands)), set())
        with self.assertRaises(InvalidWorld):
            pipe_in_turns([A, A], WRONG_WORLDS[0], "", [], -1)
        with self.assertRaises(InvalidNumber) as caught:
            pipe_in_turns([A, A], good, "", [], -1)
        self.assertEqual(caught.exception.value, -1)
        for order in ([], [0], [1], [0, 2], [0, 1, 2], [-1, 0, 1], [1, 1]):
            with self.assertRaises(InvalidOrder) as caught:
                pipe_in_turns([A, A], good, "", order, 0)
            self.assertEqual(caught.exception.value, order)
            self.assertIsNot(caught.exception.value, order)
        with self.assertRaises(TooLong):
            pipe_in_turns([A, A], good, "", [1, 0, 1, 1], 0)

    def test_what_is_passed_stays(self):
        commands, told, order = read_script("{ echo a >a; f() { a; }; } | { x=1; remove d; }")[0][1], world(names={"x": "2"}), [1, 0]
        ahead = copy.deepcopy((commands, told, order))
        got = pipe_in_turns(commands, told, "", order, 9)
        self.assertEqual((commands, told, order), ahead)
        self.assertEqual(got, ({"/a": "a\n"}, "", ["", ""], 0))


class TouchedTest(unittest.TestCase):
    def touches(self, text, read, written, folder="/d"):
        with self.subTest(text=text):
            self.assertEqual(touched(script=read_script(text), folder=folder), (read, written))

    def test_turns(self):
        self.touches("<a", ["/d/a"], [])
        self.touches(":  <a >b 2>>../c 2>&1 <<E\nx\nE\n", ["/d/a"], ["/c", "/d/b"])
        self.touches("{ :; } >'a b'; (:) >\"a'b\"; if :; then :; fi >\\a; while :; do :; done <b; for x; do :; done >c; case a in esac >e", ["/d/b"],
                     ["/d/a", "/d/a b", "/d/a'b", "/d/c", "/d/e"])
        self.touches(": <$x", ["*"], [])
        self.touches(": >a*", [], ["*"])
        self.touches(": >\"a*\"", [], ["/d/a*"])
        self.touches(": >$((1))", [], ["*"])
        self.touches(": <a*", ["*"], [])

    def test_tools_and_deeds(self):
        self.touches("cat a /b ../c a", ["/b", "/c", "/d/a"], [])
        self.touches("'cat' a; c\"at\" b", ["/d/a", "/d/b"], [])
        self.touches("cat", [], [])
        self.touches("cat a $x", ["*"], [])
        self.touches("list; list a", ["/d", "/d/a"], [])
        self.touches("list", ["/"], [], folder="/")
        self.touches("pwd", ["/d"], [])
        self.touches("pwd a \"$x\"", ["/d"], [])
        self.touches("test -f a; test -d /b; test ! ! -f c; test -f ''", ["/b", "/d", "/d/a", "/d/c"], [])
        self.touches("test -n a; test -f; test a = b; test -f a b; test ! -f; test -f -d a; test; test ! !; test -e a", [], [])
        self.touches("test a \"$x\"", ["*"], [])
        self.touches("copy a b", ["/d/a"], ["/d/b"])
        self.touches("copy a b c", ["/d/a"], ["/d/b", "/d/c"])
        self.touches("copy a \"$x\"", ["*"], ["*"])
        self.touches("copy \"$x\" a", ["*"], ["*"])
        self.touches("tee a; make b c; remove e; move f g", [], ["/d/a", "/d/b", "/d/c", "/d/e", "/d/f", "/d/g"])
        self.touches("tee \"$x\" a", [], ["*"])
        self.touches("echo a; keep b; first 1; order; once; count; number; swap a b; part 1 :; set a; unset x; shift; read x; exit; :; true; false; drop x; last 1", [], [])

    def test_what_is_not_sure(self):
        for text in ("cd a", "cd", "nix a", "f", "$x", "\"$x\"", "c*", "''", "a$(b)", "copy* a"):
            self.touches(text, ["*"], ["*"])
        self.touches("echo *; tee a", ["*"], ["/d/a"])
        self.touches("echo $x; tee a", ["*"], ["/d/a"])
        self.touches("echo \"$x\" $#; tee a", [], ["/d/a"])
        self.touches("x=* :", [], [])
        self.touches("x=$y", [], [])
        self.touches("for x in a *; do :; done", ["*"], [])
        self.touches("for x; do :; done", [], [])
        self.touches("case * in *) ;; $x) ;; esac", [], [])

    def test_where_commands_stand(self):
        self.touches("x=$(cat a)", ["/d/a"], [])
        self.touches("echo \"${x-$(tee a)}\" >\"$(cat b)\"", ["/d/b"], ["*"])
        self.touches("f() { cat a; }", ["/d/a"], [])
        self.touches("case \"$(cat a)\" in $(cat b)) tee c;; esac", ["/d/a", "/d/b"], ["/d/c"])
        self.touches("! cat a | tee b && { copy c e || (pwd); }", ["/d", "/d/a", "/d/c"], ["/d/b", "/d/e"])
        self.touches("", [], [])

    def test_the_folder_that_is_written(self):
        self.touches("remove ../d", ["*"], ["*"])
        self.touches("remove /", ["*"], ["*"])
        self.touches(">..", ["*"], ["*"])
        self.touches("remove a", [], ["/d/b/a"], folder="/d/b")
        self.touches("remove ../../d", ["*"], ["*"], folder="/d/b")
        self.touches("remove ../c /db /d/bc", [], ["/d/bc", "/d/c", "/db"], folder="/d/b")
        self.touches("remove /", [], ["/"], folder="/")
        self.touches("remove \"$x\"", [], ["*"])

    def test_is_apart(self):
        def check(text, truth, folder="/"):
            with self.subTest(text=text):
                self.assertIs(is_apart(pipe=read_script(text)[0], folder=folder), truth)
        check("cat a | tee b", True)
        check("cat a | cat a", True)
        check("tee a | tee a", False)
        check("cat a | tee a", False)
        check("tee a | cat a", False)
        check("cat d/a | remove d", False)
        check("remove d | list d/a", False)
        check("make d/a | list d", False)
        check("make da | list d", True)
        check("nix | true", True)
        check("nix | cat a", False)
        check("nix | nix", False)
        check("echo * | echo *", True)
        check("echo * | tee a", False)
        check("list / | tee a", False)
        check("list | tee ../a", True, folder="/d")
        check("pwd | remove /", False)
        check("true | cat a | true | tee a", False)
        check("{ cat a >b; } | cat c | tee e", True)
        check("true | remove /", True)

    def test_errors(self):
        pipe = ("pipe", [A, A])
        for wrong in (A, ("pipe", [A]), ("pipe", [A, WRONG]), ("group", [A], [])):
            for call in (lambda: is_apart(wrong, "x"), lambda: race(wrong, WRONG_WORLDS[0], "", -1)):
                with self.assertRaises(InvalidTree) as caught:
                    call()
                self.assertEqual(caught.exception.value, wrong)
                self.assertEqual(set(lists_in(caught.exception.value)) & set(lists_in(wrong)), set())
        with self.assertRaises(InvalidTree) as caught:
            touched([A, WRONG], "x")
        self.assertEqual(caught.exception.value, [A, WRONG])
        for folder in ("", "d", "/d/", "//", "/.", "/d/..", "*"):
            for call in (lambda: is_apart(pipe, folder), lambda: touched([A], folder)):
                with self.assertRaises(InvalidPath) as caught:
                    call()
                self.assertEqual(caught.exception.value, folder)
        with self.assertRaises(InvalidWorld):
            race(pipe, WRONG_WORLDS[0], "", -1)
        with self.assertRaises(InvalidNumber):
            race(pipe, world({}), "", -1)
        with self.assertRaises(TooLong) as caught:
            race(pipe, world({}), "", 1)
        self.assertEqual(caught.exception.value, 1)


class RaceTest(unittest.TestCase):
    def races(self, text, orders, told=None, reads=""):
        with self.subTest(text=text):
            self.assertEqual(race(pipe=read_script(text)[0], world=world({}) if told is None else told, text=reads, limit=99), orders)

    def test_race(self):
        self.races("echo a >f | cat f", ([0, 1], [1, 0]))
        self.races("echo a >f | cat", None)
        self.races("echo a >f | echo b >f", ([0, 1], [1, 0]))
        self.races("echo a >f | echo a >f", None)
        self.races("remove f | test -f f", ([0, 1], [1, 0]), told=world({"/f": ""}))
        self.races("{ true; remove f; } | test -f f", None, told=world({"/f": ""}))
        # What is written to 2 does not count.
        self.races("echo a >f | cat f >&2", None, told=world({"/f": "a\n"}))
        self.races("echo a >f | true | cat f", ([0, 1, 2], [1, 2, 0]))
        self.races("true | echo a >f | cat f", ([0, 1, 2], [0, 2, 1]))
        self.races("cat | tee f | count", None, reads="a\nb")

    def test_pipes_that_are_apart_do_not_race(self):
        found = 0
        for seed in range(250):
            grower = RunGrower(seed)
            told, reads = grower.world(), grower.text()
            pipe = ("pipe", [grower.piped(2) for _ in range(grower.random.randint(2, 3))])
            if is_script([pipe]) and is_world(told) and is_apart(pipe, told[1]):
                try:
                    behind, out, _, _ = run([pipe], told, reads, 60)
                except TooLong:
                    continue
                found += 1
                for order in itertools.permutations(range(len(pipe[1]))):
                    got = pipe_in_turns(pipe[1], told, reads, list(order) + [order[0]], 60)
                    self.assertEqual((got[0], got[1], got[3]), (behind[0], out, behind[5]), show_script([pipe]))
        self.assertGreater(found, 40)


if __name__ == "__main__":
    unittest.main()
