"""[2], [6], [8] to [15] and runs.py: what whole runs come to."""

import copy
import unittest

from quotedback.errors import InvalidNumber, InvalidTree, InvalidWorld, TooLong
from quotedback.readings import read_script
from quotedback.runs import Walk, dry, last_of, needed, pipe_in_turns, run
from quotedback.worlds import deeds_between, is_world
from tests.building import WRONG, A, bare, do, lists_in
from tests.test_worlds import WRONG_WORLDS
from tests.worlds_told import FILES, ran, world


class RunsTest(unittest.TestCase):
    def out(self, text, out, status=0, err="", reads="", told=None):
        """Checks what a script writes, and its status; returns the world behind it."""
        with self.subTest(text=text):
            behind, got, got_err, events = ran(text, told, reads)
            self.assertEqual((got, got_err, behind[5]), (out, err, status))
            self.assertEqual(events[-1], ("end", status))
            self.assertTrue(is_world(behind))
            self.assertEqual("".join(event[2] for event in events if event[:2] == ("say", 1)), out)
            self.assertEqual("".join(event[2] for event in events if event[:2] == ("say", 2)), err)
            return behind

    def events(self, text, events, told=None, reads=""):
        with self.subTest(text=text):
            self.assertEqual(ran(text, told, reads)[3][:-1], events)

    # Names, words and status

    def test_names_arguments_and_status(self):
        told = world({}, names={"x": "a  b"}, arguments=["p", "q r"], status=7)
        self.out("echo $x $1 $2 $# $0 $?", "a b p q r 2 me 7\n", told=told)
        self.out("echo \"$x\" \"$@\" \"$*\"", "a  b p q r p q r\n", told=told)
        self.out("echo $y[$z]", "[]\n", told=told)
        self.out("false\necho $?\necho $?", "1\n0\n", told=told)
        self.out("nix", "", 127, "nix: unknown\n", told=told)
        self.out("", "", 0, told=told)
        self.out("''", "", 127, ": unknown\n")
        self.out("x=echo\n$x a", "a\n")
        self.out("x='echo a b'\n$x c", "a b c\n")

    def test_sets_without_fields(self):
        behind = self.out("x=1 y=$x$x\nx= z=a\\ b", "")
        self.assertEqual(behind[2], {"x": "", "y": "11", "z": "a b"})
        self.out("x=2 $e\necho $x", "2\n")
        self.out("x=1\nx=2 $x\necho $x", "1\n", 0, "1: unknown\n")
        self.out("false\nx=1\necho $?", "0\n")
        self.out("x=$(exit 3)\necho $?", "3\n")
        self.out("x=$(exit 3) y=$(exit 4) z=1\necho $?", "4\n")
        self.out("$(exit 3)\necho $?", "3\n")
        self.out("x=1 >/f$(exit 5)\necho $?", "5\n")
        self.out("false\nx=$? y=$(exit 3) z=$?\necho $x $z $?", "1 1 3\n")
        self.out("false\n$(echo $?)", "", 127, "1: unknown\n")

    def test_sets_with_fields_are_put_back(self):
        behind = self.out("x=1\nx=2 y=$x echo a$x\necho $x$y", "a1\n1\n")
        self.assertEqual(behind[2], {"x": "1"})
        self.out("f() { echo $x $y; x=3; y=4; z=5; }\nx=1\nx=2 y=$x$x f\necho $x [$y] $z", "2 22\n1 [] 5\n")
        self.out("x=1\nx=2 unset x\necho $x", "1\n")
        self.out("x=1 read x\necho [$x]", "[]\n", reads="a\n")
        self.out("x=1 x=2 x=3 true\necho [$x]", "[]\n")
        self.out("x=${y=3} true\necho [$x]$y", "[]3\n")
        self.out("x=1 true ${x=2}\necho $x", "2\n")
        self.out("x=1 true >/${x=f}\necho $x", "f\n")
        self.out("SEP=: set ${x-a:b}\necho $#", "1\n")
        self.out("SEP=:\ny=a:b\nset $y\necho $# $1", "2 a\n")

    def test_what_is_put_back_however_a_command_ends(self):
        for end in ("exit 3", "return 3", ": ${gone?no}", "nix <none"):
            text = "f() { set r; y=5; " + end + "; }\nx=1 y=2 f p q"
            behind = ran(text, world({}, names={"x": "0"}, arguments=["a"]))[0]
            self.assertEqual((behind[2], behind[3]), ({"x": "0"}, ["a"]), end)
        behind = self.out("x=1 y=${z?no} true", "", 1, "z: no\n")
        self.assertEqual(behind[2], {})
        behind = self.out("x=1 y=${z?no}", "", 1, "z: no\n")
        self.assertEqual(behind[2], {"x": "1"})
        behind = self.out("echo ${x=1} ${z?no}", "", 1, "z: no\n")
        self.assertEqual(behind[2], {"x": "1"})
        behind = self.out("echo ${x=1}${z?no}", "", 1, "z: no\n")
        self.assertEqual(behind[2], {"x": "1"})

    def test_order_of_words_turns_and_sets(self):
        self.events("x=${a=1}${b=2} y=$x echo ${c=3}$(echo ${d=4}) >f${e=5}", [
            ("set", "c", "3"), ("set", "d", "4"), ("do", ["echo", "4"]), ("do", ["echo", "34"]), ("set", "e", "5"), ("file", "/f5", ""),
            ("set", "a", "1"), ("set", "b", "2"), ("set", "x", "12"), ("set", "y", "12"), ("file", "/f5", "34\n")])
        self.events("echo ${a=1}$(echo hi)${b=2}$(echo ho)${c=3}", [
            ("set", "a", "1"), ("do", ["echo", "hi"]), ("set", "b", "2"), ("do", ["echo", "ho"]), ("set", "c", "3"),
            ("do", ["echo", "1hi2ho3"]), ("say", 1, "1hi2ho3\n")])
        self.events("x=$(echo a >f) echo * >g", [
            ("do", ["echo", "*"]), ("file", "/g", ""), ("do", ["echo", "a"]), ("file", "/f", ""), ("file", "/f", "a\n"), ("set", "x", ""),
            ("file", "/g", "*\n")])

    def test_paths_are_those_at_the_end_of_a_word(self):
        self.out("echo * $(make n) * /*", "a a n /a /n\n", told=world({"/a": ""}))
        self.out("echo *$(make n) $(remove a)", "a n\n", told=world({"/a": ""}))
        self.out("for x in * $(make n) *; do echo $x; done", "a\na\nn\n", told=world({"/a": ""}))
        self.out("cd d\necho * /* */*", "e f /a /d /a /d f/g\n", told=world())

    def test_runs_in_words(self):
        self.out("echo $(echo a; echo b) \"$(echo a; echo b)\"", "a b a\nb\n")
        self.out("echo [$(true)] $(echo; echo a; echo)", "[] a\n")
        self.out("x=1\necho $(x=2; echo $x; set a b; cd d; f() { true; })$x $# $(pwd)\nf", "21 0 /\n", 127, "f: unknown\n", told=world())
        self.out("echo $(nix) 2>/dev", "\n", 0, "nix: unknown\n")
        self.out("{ echo $(nix); } 2>/f\ncat /f", "\nnix: unknown\n")
        self.out("read x; echo $(read y; echo $y) $x; cat", "b a\nc\n", reads="a\nb\nc\n")
        self.out("echo $(read y; echo $y)$(read y; echo $y) <f; read z; echo $z", "12\n3\n", reads="1\n2\n3\n", told=world({"/f": "p\nq\n"}))
        self.out("x=$(cat) echo <f", "\n", told=world({"/f": "p\nq\n"}))
        self.out("x=$(cat) <f; echo $x", "p q\n", told=world({"/f": "p\nq\n"}))
        self.out("echo a$(exit 3; echo b)c $?\necho $?", "ac 0\n0\n")
        self.out("echo a$(: ${x?no}; echo b)c", "ac\n", 0, "x: no\n")

    def test_refusals(self):
        self.out("echo a${x?b\\ c}\necho d", "", 1, "x: b c\n")
        self.out("echo ${x:?$y}", "", 1, "x: \n", told=world({}, names={"x": ""}))
        self.out("echo ${1=a}", "", 1, "1: \n")
        self.out("echo ${@:=a}", "", 1, "@: \n")
        for text in ("$((1/0))", "$((x))", "$((" + "9" * 41 + "))"):
            self.out("echo " + text + "\necho a", "", 1, "bad sum\n", told=world({}, names={"x": "a"}))
        self.out("(echo ${x?no}; echo a)\necho $?", "1\n", 0, "x: no\n")
        self.out("echo ${x?no} | cat; echo $?", "0\n", 0, "x: no\n")
        self.out("cat | echo ${x?no}; echo $?", "1\n", 0, "x: no\n")
        self.out("f() { echo ${x?no}; }\nf; echo a", "", 1, "x: no\n")
        self.out("echo ${x?no} 2>/f", "", 1, "x: no\n")
        self.out("{ echo ${x?no}; } 2>/f", "", 1)
        behind = self.out("y=${x?no} echo 2>/f", "", 1)
        self.assertEqual(behind[0], {"/f": "x: no\n"})
        behind = self.out("echo 2>/f >${x?no}", "", 1)
        self.assertEqual(behind[0], {"/f": "x: no\n"})
        for text in ("for i in ${x?no}; do echo a; done", "case ${x?no} in *) echo a;; esac", "case a in ${x?no}) echo a;; *) echo b;; esac",
                     "{ echo a; } >${x?no}", "if true; then echo ${x?no}; fi", "while echo ${x?no}; do true; done"):
            self.out(text + "\necho c", "", 1, "x: no\n")
        self.out("( echo a ) >${x?no}\necho $?", "1\n", 0, "x: no\n")

    # Turns

    def test_turns(self):
        behind = self.out("echo a >f; echo b >>f; cat <f; echo c >f", "a\nb\n")
        self.assertEqual(behind[0], {"/f": "c\n"})
        behind = self.out("echo a >>n; >m; <m", "")
        self.assertEqual(behind[0], {"/n": "a\n", "/m": ""})
        self.out("nix 2>f; cat f", "nix: unknown\n")
        self.out("nix 2>&1", "nix: unknown\n", 127)
        self.out("echo a >&2", "", 0, "a\n")
        self.out("nix 2>&1 >/f; cat /f", "nix: unknown\n")
        self.out("nix >/f 2>&1; cat f", "nix: unknown\n")
        self.out("echo a >&-; nix 2>&-; cat 0>&-; echo b", "b\n", reads="in\n")
        self.out("echo a >&0; cat", "in\n", reads="in\n")
        self.out("cat 0>&1", "", reads="in\n")
        self.out("cat 1>&0 0<f 0>&1", "", reads="in\n", told=world({"/f": "x\n"}))
        self.out("{ cat; } 1>&0 0>&1; cat; echo a", "a\n", reads="in\n")
        self.out("echo a 2>&1 1>&2 >&1", "a\n")
        self.out("echo a >f >g; cat f; echo -; cat g", "-\na\n")
        self.out("cat <f <g", "2\n", told=world({"/f": "1\n", "/g": "2\n"}))
        self.out("cat <<E\na $x\nE\ncat <<'E'\na $x\nE\n", "a 1\na $x\n", told=world({}, names={"x": "1"}))
        self.out("read y <<E\n$x$(echo b)\nE\necho $y", "1b\n", told=world({}, names={"x": "1"}))
        self.out("x='a b'\necho c >$x; cat 'a b'", "c\n")
        self.out("echo c >*; cat '*'", "c\n", told=world({"/a": "1"}))

    def test_turns_that_cannot_be_done(self):
        told = world()
        for turn, text in (("<z", "z"), ("<d", "d"), ("<z/y", "z/y"), (">d", "d"), (">/", "/"), (">z/y", "z/y"), (">a/y", "a/y"), (">>d", "d"),
                           (">>z/y", "z/y"), ("<$x", ""), (">''", ""), ("<./z", "./z")):
            self.out("echo a " + turn, "", 1, text + ": no\n", told=told)
            self.out(turn, "", 1, text + ": no\n", told=told)
            self.out("{ echo a; } " + turn + "; echo $?", "1\n", 0, text + ": no\n", told=told)
            self.out("( echo a ) " + turn + "; echo $?", "1\n", 0, text + ": no\n", told=told)
            self.out("y=1 " + turn + "; echo [$y]", "[]\n", 0, text + ": no\n", told=told)
            self.out("for i in $((1/0)); do echo a; done " + turn + "; echo b", "b\n", 0, text + ": no\n", told=told)
            self.out("case $((1/0)) in *) echo a;; esac " + turn + "; echo b", "b\n", 0, text + ": no\n", told=told)
            self.out("while echo a; do exit; done " + turn + "; echo b", "b\n", 0, text + ": no\n", told=told)
            self.out("if echo a; then exit; fi " + turn + "; echo b", "b\n", 0, text + ": no\n", told=told)
        behind = self.out("echo a >n 2>m <z >o; cat m", "z: no\n", told=told)
        self.assertEqual(behind[0], {**FILES, "/n": "", "/m": "z: no\n"})
        self.out("f() { echo a; } <z; f; echo $?", "1\n", 0, "z: no\n")

    def test_what_is_written_and_lost(self):
        behind = self.out("{ echo a; remove f; echo b; make f; echo c; remove f; echo d >f; echo e; } >f", "")
        self.assertEqual(behind[0], {"/f": "d\ne\n"})
        behind = self.out("{ echo a; move f g; echo b; } >f", "")
        self.assertEqual(behind[0], {"/g": "a\n"})
        self.out("{ cat f; echo a >f; cat f; } <f", "1\na\n", told=world({"/f": "1\n"}))
        self.out("{ echo a >f; cat; } <f", "1\n", told=world({"/f": "1\n"}))
        self.out("cat f >f; cat f", "", told=world({"/f": "1\n"}))
        self.out("tee f <f >f; cat f", "1\n1\n", told=world({"/f": "1\n"}))

    def test_turns_of_commands_with_scripts(self):
        self.out("{ read x; read y; echo $y$x; } <f; read z; echo $z", "21\nin\n", reads="in\n", told=world({"/f": "1\n2\n3\n"}))
        self.out("if read x; then read y; fi <f; echo $y", "2\n", told=world({"/f": "1\n2\n"}))
        self.out("while read x; do echo [$x]; done <f", "[1]\n[2]\n[]\n", told=world({"/f": "1\n2\n\n"}))
        self.out("until ! read x; do echo [$x]; done <f >g; cat g", "[1]\n", told=world({"/f": "1"}))
        self.out("for x in 1 2; do echo $x; done >g; cat g", "1\n2\n")
        self.out("case a in a) echo b;; esac >g; cat g", "b\n")
        self.out("f() { echo a; echo b >&2; } >g 2>&1; f; echo c; cat g", "c\na\nb\n")
        self.out("f() { cat; }; f <h; f", "1\nin\n", reads="in\n", told=world({"/h": "1\n"}))
        self.out("{ { echo a; } >g; echo b; } >h; cat g h", "a\nb\n")
        self.out("{ echo a; } >${x=g}; echo $x", "g\n")
        self.out("( echo a ) >${x=g}; echo [$x]; cat g", "[]\na\n")
        behind = self.out("while true; do { break; } >g; done; echo a", "a\n")
        self.assertEqual(behind[0], {"/g": ""})
        self.out("f() { { return 3; } >g; echo b; }\nf; echo $?", "3\n")

    # Deeds, tools and functions

    def test_what_the_first_field_says(self):
        self.out("f() { echo $# $1 $@; }\nset x\nf; f a b; echo $#$1", "0\n2 a a b\n1x\n")
        self.out("f() { set q r; shift; echo $1 $#; }\nset x y z\nf 1; echo $# $3", "r 1\n3 z\n")
        self.out("f() { x=1; g() { echo in; }; cd d; }\nf; g; echo $x; pwd", "in\n1\n/d\n", told=world())
        self.out("f() { f() { echo b; }; echo a; }\nf; f", "a\nb\n")
        self.out("f() { false; }\nf; echo $?", "1\n")
        self.out("f() { echo $0 $?; }\nfalse\nf", "me 1\n")
        self.out("f() if test $# = 0; then return 4; else echo $1; shift; f $@; fi\nf a b c; echo $?", "a\nb\nc\n4\n")
        self.out("cat <f | order", "a\nb\n", told=world({"/f": "b\na\n"}))
        self.out("keep x <f", "", 1, told=world({"/f": "b\n"}))
        self.out("echo a; echo b; echo", "a\nb\n\n")
        told = world({}, functions={"g": read_script("h() { echo $1; }")[0][2]})
        self.out("g p", "p\n", told=told)

    def test_read_goes_on_from_where_it_stopped(self):
        self.out("read x; first 1; read y; cat; read z; echo $? $x $y [$z]", "b\nd\ne1 a c []\n", reads="a\nb\nc\nd\ne")
        self.out("read x; echo $?; read x; echo $?$x; read x; echo $?[$x]", "0\n0b\n1[]\n", reads="a\nb")
        self.out("read x; (read x; echo $x); read x; echo $x", "b\nc\n", reads="a\nb\nc\n")
        self.out("count; count", "2\n0\n", reads="a\nb\n")
        self.out("make n; list; cat /f; keep; read x; echo $x", "n\nin\n", 0, "/f: no\nkeep: wrong\n", reads="in\n")

    def test_deeds_in_a_run(self):
        told = world(names={"x": "1", "y": "2"}, arguments=["p", "q"])
        self.out("unset x z; echo [$x]$y; unset; echo $?", "[]2\n2\n", 0, "unset: wrong\n", told=told)
        self.out("shift; echo $1 $?; shift; shift; echo $?", "q 0\n1\n", told=told)
        self.out("set a 'b c'; echo $# $2; set; echo $#", "2 b c\n0\n", told=told)
        self.out("cd d/f; pwd; cd; pwd; cd z; echo $?; cd ''; pwd", "/d/f\n/\n1\n/\n", 0, "z: no\n", told=told)
        self.out("test -f a; echo $?; cd d; test -f a; echo $?", "0\n1\n", told=told)
        self.out("true a; echo $?; : b; echo $?; false; echo $?", "0\n0\n1\n", told=told)

    def test_folders_that_are_gone(self):
        self.out("cd d/f; remove /d/f; pwd; remove /d; pwd", "/d\n/\n", told=world())
        self.out("cd d/f; (cd /; remove d/f); pwd; (remove /d; make /d); pwd", "/d\n/d\n", told=world())
        self.out("cd d/f; remove ../f ../d/e; make h; pwd; echo *", "/d\nh\n", told=world())
        self.out("cd d; x=$(remove /d; pwd); echo $x; pwd", "/\n/\n", told=world())
        self.out("cd d; remove /d | pwd; pwd", "/\n/\n", told=world())
        behind = self.out("cd d/f; remove /d", "", told=world())
        self.assertEqual(behind[:2], ({"/a": "1\n"}, "/"))

    # Pipes, lists, loops

    def test_pipes_and_copies(self):
        self.out("echo b a | cat | swap ab ba", "a b\n")
        self.out("x=1; echo a | x=2; (x=3; set q; cd d); echo $x $#; pwd", "1 0\n/\n", told=world())
        self.out("false | true; echo $?; true | false; echo $?", "0\n1\n")
        self.out("exit 3 | cat; echo $?; true | exit 4; echo $?", "0\n4\n")
        self.out("(exit 3); echo $?; false; (exit); echo $?", "3\n1\n")
        self.out("(return 3; echo a); echo $?", "3\n")
        self.out("f() { (return 3; echo a); echo $?; return 4; echo b; }\nf; echo $?", "3\n4\n")
        self.out("f() { return 3 | cat; echo $?; }\nf", "0\n")
        self.out("false; (echo $?) ; false; echo $? | cat", "1\n1\n")
        self.out("false; echo a | echo $?", "1\n")
        self.out("echo a >&2 | cat; nix | cat", "", 0, "a\nnix: unknown\n")
        self.out("nix 2>&1 | swap n N", "Nix: uNkNowN\n")
        self.out("{ echo a; echo b; } | { read x; read y; echo $y$x; }", "ba\n")
        self.out("cat | cat", "in\n", reads="in\n")
        self.out("echo a | cat <f", "1\n", told=world({"/f": "1\n"}))
        self.out("echo a >f | cat f", "a\n")
        self.out("f() { true; } | f", "", 127, "f: unknown\n")
        self.out("first 1 | cat; cat", "a\nb\n", reads="a\nb\n")

    def test_lists(self):
        self.out("true && echo a; false && echo b; true || echo c; false || echo d", "a\nd\n")
        self.out("false && true; echo $?; nix || false; echo $?", "1\n1\n", 0, "nix: unknown\n")
        self.out("false && echo a || echo b && echo c", "b\nc\n")
        self.out("! true; echo $?; ! false; echo $?; ! nix; echo $?; ! true | false; echo $?", "1\n0\n0\n0\n", 0, "nix: unknown\n")
        self.out("! true || echo a", "a\n")
        self.out("! exit 3; echo a", "", 3)

    def test_if_and_case(self):
        self.out("if false; then echo a; elif true; then echo b; else echo c; fi", "b\n")
        self.out("if false; then echo a; fi; echo $?", "0\n")
        self.out("if false; then echo a; else false; fi; echo $?", "1\n")
        self.out("if true; then false; fi; echo $?", "1\n")
        self.out("if false; true; then echo a; fi", "a\n")
        self.out("case abc in a) echo 1;; b|a*) echo 2;; *) echo 3;; esac", "2\n")
        self.out("false; case a in b) echo 1;; esac; echo $?; false; case a in a) ;; esac; echo $?", "0\n0\n")
        self.out("case a in a) false;; esac; echo $?", "1\n")
        self.out("x='a*'; case abc in \"$x\") echo 1;; $x) echo 2;; esac", "2\n")
        self.out("case $(echo a) in $(echo b)) echo 1;; [a-c]) echo 2;; $(echo c >&2)) echo 3;; esac", "2\n")
        self.out("case ${x=b} in a) ;; $x) echo 2;; ${y=c}) ;; esac; echo $y", "2\n\n")
        self.out("case a in a) break;; esac; echo b", "b\n")
        self.out("case '' in '') echo a;; esac; case a/b in *) echo b;; esac", "a\nb\n")

    def test_loops(self):
        self.out("while read x; do echo $x; done; echo [$x]$?", "a\nb\n[]0\n", reads="a\nb")
        self.out("until test \"$x\"; do echo a; x=1; done; echo $?", "a\n0\n")
        self.out("while false; do echo a; done; echo $?", "0\n")
        self.out("while read x; do false; done; echo $?", "1\n", reads="a\n")
        self.out("for x in a 'b c' $y *; do echo $x; done; echo $x", "a\nb c\n1\n2\n*\n*\n", told=world({}, names={"y": "1 2"}))
        self.out("set p q; for x; do echo $x; shift; done; echo $#", "p\nq\n0\n")
        self.out("for x in; do echo a; done; echo $?[$x]", "0[]\n")
        self.out("for x in a b; do test $x = a; done; echo $?", "1\n")
        self.out("for x in a b; do x=c; echo $x; done", "c\nc\n")

    def test_break_and_continue(self):
        self.out("while true; do echo a; break; echo b; done; echo $?", "a\n0\n")
        self.out("for x in 1 2 3; do test $x = 2 && continue; echo $x; done", "1\n3\n")
        self.out("for x in 1 2; do for y in a b; do echo $x$y; continue 2; done; echo c; done", "1a\n2a\n")
        self.out("for x in 1 2; do for y in a b; do echo $x$y; break 2; done; done; echo $?", "1a\n0\n")
        self.out("for x in 1 2; do for y in a b; do break 9; done; done; echo $x$y", "1a\n")
        self.out("for x in 1 2; do for y in a b; do continue 9; done; echo c; done; echo $x$y", "2a\n")
        self.out("break; echo $?; false; continue; echo $?", "0\n0\n")
        self.out("break 0; echo $?; for x in 1; do break x; echo $?; done", "2\n2\n", 0, "break: wrong\nbreak: wrong\n")
        self.out("f() { break; echo a; }; for x in 1 2; do f; done", "a\na\n")
        self.out("for x in 1 2; do (break; echo a); echo b; done", "a\nb\na\nb\n")
        self.out("for x in 1 2; do break | cat; y=$(break); echo b; done", "b\nb\n")
        self.out("for x in 1 2; do { break; echo a; }; done; for x in 1 2; do if break; then echo b; fi; done", "")
        self.out("for x in 1 2; do ! break; done; echo $? $x", "0 1\n")
        self.out("while break; do echo a; done; echo $?", "0\n")
        self.out("for x in 1 2; do while break 2; do echo a; done; echo b; done; echo $x", "1\n")
        self.out("while read x && { test $x != b || continue; }; do echo $x; done", "a\nc\n", reads="a\nb\nc\n")
        self.out("while read x && { test $x != b || continue; }; do false; done; echo $?", "1\n", reads="a\nb\n")
        self.out("while read x; do test $x = a && continue; false; done; echo $?", "0\n", reads="b\na\n")
        self.out("for x in 1 2; do false; continue; done; echo $?", "0\n")
        self.out("until false; do break; done | cat; echo a", "a\n")

    def test_return_and_exit(self):
        self.out("echo a; exit 3; echo b", "a\n", 3)
        self.out("false; exit; echo b", "", 1)
        self.out("return 4; echo b", "", 4)
        self.out("f() { for x in 1 2; do return 5; done; }\nf; echo $?$x", "51\n")
        self.out("f() { exit 5; }\nf; echo a", "", 5)
        self.out("f() { false; return; }\nf; echo $?", "1\n")
        self.out("exit 256; echo $?; return a b; echo $?", "2\n2\n", 0, "exit: wrong\nreturn: wrong\n")
        self.out("x=$(return 3; echo a); echo $?", "3\n")
        self.out("while true; do exit 7; done", "", 7)

    # Events, steps, sizes

    def test_events(self):
        self.events("echo a; nix; echo b >&2", [
            ("do", ["echo", "a"]), ("say", 1, "a\n"), ("do", ["nix"]), ("say", 2, "nix: unknown\n"), ("do", ["echo", "b"]), ("say", 2, "b\n")])
        self.events("echo a >f; echo b >>f; >f; >f; >>f; >>g", [
            ("do", ["echo", "a"]), ("file", "/f", ""), ("file", "/f", "a\n"), ("do", ["echo", "b"]), ("file", "/f", "a\nb\n"),
            ("file", "/f", ""), ("file", "/g", "")])
        self.events("make n; move n m; remove m; copy z y; list z", [
            ("do", ["make", "n"]), ("folder", "/n"), ("do", ["move", "n", "m"]), ("lost", "/n"), ("folder", "/m"), ("do", ["remove", "m"]),
            ("lost", "/m"), ("do", ["copy", "z", "y"]), ("say", 2, "z: no\n"), ("do", ["list", "z"]), ("say", 2, "z: no\n")])
        self.events("cat a z; tee n", [
            ("do", ["cat", "a", "z"]), ("say", 1, "1\n"), ("say", 2, "z: no\n"), ("do", ["tee", "n"]), ("file", "/n", "in"), ("say", 1, "in")],
            told=world(), reads="in")
        self.events("for x in a b; do read x; done; unset x y; unset x", [
            ("set", "x", "a"), ("do", ["read", "x"]), ("set", "x", "in"), ("set", "x", "b"), ("do", ["read", "x"]), ("set", "x", ""),
            ("do", ["unset", "x", "y"]), ("gone", "x"), ("do", ["unset", "x"])], reads="in")
        self.events("x=1 y=2 f; x=3 unset x", [
            ("do", ["f"]), ("set", "x", "1"), ("set", "y", "2"), ("say", 2, "f: unknown\n"), ("do", ["unset", "x"]), ("set", "x", "3"), ("gone", "x")])
        self.events("echo a <z; {\necho\n} >d; y=1 <z", [
            ("do", ["echo", "a"]), ("say", 2, "z: no\n"), ("say", 2, "d: no\n"), ("say", 2, "z: no\n")], told=world())
        self.events("(x=1; echo $x) | cat >f; echo $(echo '') ''", [
            ("set", "x", "1"), ("do", ["echo", "1"]), ("do", ["cat"]), ("file", "/f", ""), ("file", "/f", "1\n"), ("do", ["echo", ""]),
            ("do", ["echo", ""]), ("say", 1, "\n")])
        self.events("f() { echo a; }; f; $e; cd; set a; :", [
            ("do", ["f"]), ("do", ["echo", "a"]), ("say", 1, "a\n"), ("do", ["cd"]), ("do", ["set", "a"]), ("do", [":"])])

    def steps(self, text, many, told=None):
        with self.subTest(text=text):
            script, told = read_script(text), world({}) if told is None else told
            run(script, told, "", many)
            if many > 0:
                with self.assertRaises(TooLong) as caught:
                    run(script, told, "", many - 1)
                self.assertEqual(caught.exception.value, many - 1)
            walk = Walk(script, told, "")
            while not walk.is_done():
                walk.step()
            self.assertEqual(len(walk), many)

    def test_steps(self):
        for text, many in (
                ("", 0), ("f() { a; }", 0), ("case a in esac", 0), ("for x in; do a; done", 0), ("a", 1), ("x=1", 1), (">f", 1), ("$e", 1), ("a; b | c", 3),
                ("echo $(a) $(b; c)", 4), ("x=$(a) <z", 1), ("a <z$(b)", 2), ("a ${x?b}; c", 1), ("a $(b) ${x?b} $(c)", 2), ("f() { a; b; }; f; f", 6),
                ("while false; do a; done", 2), ("while a && false; do b; done", 2), ("until true; do a; done", 2), ("for x in 1 2; do a; done", 4),
                ("while true; do break; done", 3), ("for x in 1 2 3; do continue; done", 6), ("if a; then b; elif true; then c; fi", 3),
                ("(a; exit; b); c", 3), ("case $(a)1 in $(b)) ;; *) c;; esac", 3), ("case $(a) in $(b)) ;; $(c)) ;; esac", 2), ("{ a; } >z$(b)/n; c", 2), ("a && b || c", 2), ("! a", 1),
                ("x=1 y=${z?a} b; c", 1), ("for x in $(a) $(b); do c; done", 2)):
            self.steps(text, many)
        self.assertEqual(run([], world(), "", 0), (world(), "", "", [("end", 0)]))

    def too_long(self, text, reads="", told=None):
        with self.subTest(text=text):
            for limit in (300, 250):
                with self.assertRaises(TooLong) as caught:
                    run(read_script(text), world({}) if told is None else told, reads, limit)
                self.assertEqual(caught.exception.value, limit)

    def test_sizes(self):
        big, half = "b" * 4000, "h" * 2000
        told = world({"/b": big, "/h": half, "/l": "x\n" * 1000}, names={"b": big, "h": half})
        for text, out in (
                ("x=$b", ""), ("x=$h$h; : $x", ""), ("cat b", big), ("cat h h >f", ""), ("cat h h | count", "1\n"), ("x=$(cat h h)", ""),
                ("for x in $b $h$h; do :; done", ""), ("tee f <b", big), (": $b$e", ""), (": '' $b", ""), ("copy b f", ""), ("{ echo $h; } >f; cat f", half + "\n"),
                ("{ cat h; cat h; } | cat", half * 2), ("cat h; cat h; cat h", half * 3)):
            self.out(text, out, told=told)
        for text in ("x=${h}1$h", "x=1$b", "${x=1$b}", ": 1$b", ": a ${h}1$h", "for x in 1$b; do :; done", "cat b l", "cat b l >&-",
                     "cat b l | count", "{ cat b; echo; } | count", "{ cat h; cat h; } | swap h b", "x=$(cat b; echo)", "x=$(cat b; echo | cat)", "cat b >f; echo >>f", "echo $b", "echo $b >&-",
                     "for x in a b; do cat h; echo; done | count", "cat h h >f; { cat h; } >>f", "while true; do :; done", "f() { f; }; f", "f() { (f); }; f",
                     "f() { x=$(f); }; f", "f() { f | cat; }; f", "read x <<E\n1$b\nE\n"):
            self.too_long(text, told=told)
        self.too_long("tee f", reads=big + "a", told=told)
        self.too_long("read x", reads=big + "a\n", told=told)
        self.out("read x", "", reads=big + "\n", told=told)

    def test_many_fields(self):
        told = world({}, names={"x": "a " * 100, "y": "a " * 99})
        self.out("set $x $y; echo $#", "199\n", told=told)
        self.out(": $x $y", "", told=told)
        self.out("for z in $x $x; do break; done", "", told=told)
        self.too_long(": $x $x", told=told)
        self.too_long("for z in $x $x 1; do break; done", told=told)
        self.out("echo $x $y | count", "1\n", told=told)

    def test_depths(self):
        def nested(many, head, tail, inner):
            return head * many + inner + tail * many
        for head, tail in (("(", ")"), ("{ ", "; }")):
            self.out(nested(20, head, tail, "echo a"), "a\n")
        self.too_long(nested(21, "(", ")", "echo a"))
        self.out("echo " + nested(10, "$(echo $(echo ", "))", "a"), "a\n")
        self.too_long("echo " + nested(21, "$(echo ", ")", "a"))
        functions = "; ".join(f"f{at}() {{ f{at + 1}; }}" for at in range(1, 25))
        self.out(functions + "; f20() { echo a; }; f1", "a\n")
        self.too_long(functions + "; f21() { echo a; }; f1")
        self.too_long(functions + "; f20() { (echo a); }; f1")
        self.too_long(functions + "; f20() { echo a | cat; }; f1")
        self.too_long(functions + "; f20() { echo $(a); }; f1")
        self.out("f() { test $# = 19 && return; f a $@; }; f; f; echo a", "a\n")

    # The other functions of runs.py

    def test_last_of_and_dry(self):
        self.assertEqual(last_of(script=read_script("exit 7"), world=world(), text="", limit=9), 7)
        self.assertEqual(last_of(read_script("read x"), world(), "", 1), 1)
        script = read_script("echo a >n; remove n; echo 2 >a; remove d/f; make m; move m o")
        deeds = dry(script=script, world=world(), text="", limit=20)
        self.assertEqual(deeds, [("lost", "/d/f"), ("file", "/a", "2\n"), ("folder", "/o")])
        self.assertEqual(deeds, deeds_between(world(), run(script, world(), "", 20)[0]))
        self.assertEqual(dry([], world(), "", 0), [])

    def test_needed(self):
        told = world(names={"x": "1", "y": "", "z": "3"}, arguments=["p"], status=3)
        def left(text, names, paths, folder="/", reads=""):
            ahead = copy.deepcopy(told)
            behind = needed(script=read_script(text), world=(told[0], folder, *told[2:]), text=reads, limit=20)
            self.assertEqual(behind, ({path: FILES[path] for path in paths}, folder, {name: told[2][name] for name in names}, ["p"], "me", 3, {}))
            self.assertEqual(told, ahead)
        left("", [], [])
        left("echo $x $y", ["x"], [])
        left("echo ${y-a} \"$z\"", ["y", "z"], [])
        left("unset y", ["y"], [])
        left("cat a", [], ["/a"])
        left("cat d/e", [], ["/d", "/d/e"])
        left("cat g", [], ["/d", "/d/f", "/d/f/g"], folder="/d/f")
        left("true", [], ["/d", "/d/f"], folder="/d/f")
        left("remove d", [], ["/d"])
        left("echo *", [], ["/a", "/d"])
        left("echo d/*/*", [], ["/d", "/d/f", "/d/f/g"])
        left("echo /d/*", [], ["/d", "/d/e", "/d/f"])
        left("x=1; unset z", ["z"], [])
        left("test $x || test $z", ["x"], [])
        # Without its first name the run comes to the same by the second one.
        left("test \"$x$z\"\necho $?", ["x", "z"], [])
        left("if test \"$x$z\" = 13; then echo a; fi; remove n", ["x", "z"], [])

    def test_needed_where_a_run_takes_too_many_steps(self):
        script = read_script("while test ! $x; do :; done")
        self.assertEqual(needed(script, world({}, names={"x": "1", "y": "2"}), "", 9)[2], {"x": "1"})
        with self.assertRaises(TooLong) as caught:
            needed(script, world({}), "", 9)
        self.assertEqual(caught.exception.value, 9)

    def test_errors(self):
        good, tree, wrong = world({}), [A], WRONG_WORLDS[0]
        for call in (run, last_of, needed, dry, lambda script, told, text, limit: pipe_in_turns(script + [A], told, text, [0, 0], limit)):
            for parts, error, value in (
                    (([WRONG], wrong, "", -1), InvalidTree, [WRONG]), ((tree, wrong, "", -1), InvalidWorld, wrong), ((tree, good, "", -1), InvalidNumber, -1)):
                with self.assertRaises(error) as caught:
                    call(*parts)
                if error is not InvalidTree or call in (run, last_of, needed, dry):
                    self.assertEqual(caught.exception.value, value)
                self.assertEqual(set(lists_in(caught.exception.value)) & set(lists_in(parts)), set())
        for call in (run, last_of, needed, dry):
            with self.assertRaises(TooLong) as caught:
                call(tree, good, "", 0)
            self.assertEqual(caught.exception.value, 0)
        for told in WRONG_WORLDS:
            for call in (run, last_of, needed, dry):
                with self.assertRaises(InvalidWorld):
                    call(tree, told, "", 9)
            with self.assertRaises(InvalidWorld):
                Walk(tree, told, "")
            with self.assertRaises(InvalidWorld):
                pipe_in_turns([A, A], told, "", [0, 1], 9)

    def test_what_is_passed_stays_and_what_is_returned_is_new(self):
        script = read_script("f() { echo $1; }; g() { f $@; }; g a >n; cd d; set p q; x=1; echo $x$y")
        told = world(names={"y": "2"}, arguments=["r"], functions={"h": ("group", [do("a", sets=[("x", bare("1"))])], [])})
        ahead = copy.deepcopy((script, told))
        for result in (run(script, told, "", 30), needed(script, told, "", 30), dry(script, told, "", 30)):
            self.assertEqual((script, told), ahead)
            self.assertEqual(set(lists_in(result)) & set(lists_in((script, told))), set())
            self.assertEqual(len(lists_in(result)), len(set(lists_in(result))))
        self.assertEqual(sorted(run(script, told, "", 30)[0][6]), ["f", "g", "h"])


if __name__ == "__main__":
    unittest.main()
