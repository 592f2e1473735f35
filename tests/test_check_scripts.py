"""The functions of checks.py that tell of scripts and lists."""

import copy
import itertools
import unittest

from quotedback.checks import list_comes_to, reads, same_lists, sets
from quotedback.errors import InvalidTree
from quotedback.readings import read_script
from tests.building import A, WRONG, around, bare, every_command


class ReadsTest(unittest.TestCase):
    def check(self, text, names=""):
        with self.subTest(text=text):
            self.assertEqual(reads(read_script(text)), names.split())

    def test_looks(self):
        self.check("")
        self.check("a b 'x' \"x\" \\x")
        self.check("echo $x \"$y\" ${z-$a} ${b=c} ${d?$e} ${f+\"$g\"} ${h#$i} ${#j}", "a b d e f g h i j x y z")
        self.check("echo $((k + $1 * l)) \"$((m))\" ${1-$n} $# $? $@ $* $0 ${10}", "k l m n")
        self.check("$x", "x")
        self.check("a=$x b=$y", "x y")
        self.check("a >$x <$y >>$z 2>&1", "x y z")
        self.check("a <<E\n$x ${y-$z}\nE\n", "x y z")
        self.check("a <<'E'\n$x\nE\n")
        self.check("a $(b $x $(c $y))", "x y")
        self.check("a $SEP", "SEP")
        self.check("for x in a $x;do a;done", "x")
        self.check("for x in $y;do a $x $z;done", "y z")
        self.check("case $x in $y|$z) a $b;;esac", "b x y z")
        self.check("if a $b;then c $d;elif e $f;then g $h;else i $j;fi >$k", "b d f h j k")
        self.check("while a $x;do b $y;done <$z", "x y z")
        self.check("until a $x;do b $y;done", "x y")
        self.check("a $x|b $y && c $z || ! d $w", "w x y z")
        self.check("{ a $x;} >$y;(b $z)<$w", "w x y z")
        self.check("f(){ a $x;} >$y", "x y")

    def test_sets_without_words(self):
        self.check("x=1;echo $x")
        self.check("x=1 y=$x;echo $y $x")
        self.check("y=$x x=1;echo $x $y", "x")
        self.check("x=$x;echo $x", "x")
        self.check("x=1\n\nx=$x y=$z", "z")
        self.check("x=${y-$z} y=1 w=$y", "y z")
        self.check("echo $x;x=1", "x")
        self.check("x=1;a ${x-$y}", "y")
        self.check("x=1;a $((x + y))", "y")
        self.check("x=1 2>&1;a $x")
        self.check("x=1 <<E;a $x\nE\n")
        self.check("x=1 y=$x <<E\n$x $y\nE\n", "x y")
        self.check("SEP=:;a $SEP $x", "x")

    def test_sets_with_words(self):
        self.check("x=1 echo $x", "x")
        self.check("x=1 y=$x echo")
        self.check("x=1 y=$x z=$y echo $z", "z")
        self.check("x=1 echo;echo $x", "x")
        self.check("x=1 $y;a $x", "x y")

    def test_turns_that_may_end_commands(self):
        for mark in ("<", ">", ">>", "2>"):
            self.check("x=1 " + mark + "f;echo $x", "x")
            self.check("x=1 y=$x " + mark + "f;echo a")
            self.check("{ x=1;} " + mark + "f;echo $x", "x")
            self.check("{ x=1;a $x;} " + mark + "f")
            self.check("read x " + mark + "f;echo $x", "x")
            self.check("if x=1;then a;fi " + mark + "f;echo $x", "x")
        self.check("{ x=1;} 2>&1;echo $x")
        self.check("{ x=1;} <<E;echo $x\nE\n")
        self.check("read x <<E;echo $x\nE\n")
        self.check("{ x=1;} <<E >f;echo $x\nE\n", "x")

    def test_read_and_unset(self):
        self.check("read x;echo $x")
        self.check("'read' \"x\";echo $x")
        self.check("unset x y \\z;echo $x $y $z")
        self.check("x=1 read x;echo $x", "x")
        self.check("x=1 unset x y;echo $x $y", "x")
        self.check("x=$x read x", "x")
        for text in ("read", "read x y", "read $z", "read 1x", "unset", "unset 1", "unset x 1", "unset x $z", "$r x", "r?ad x", "read x*", "unset x ''",
                     "ready x", "read ''", "unset \"$y\" x", "read \"x$z\"", "read x $(a)", "set x", "echo x", "test x"):
            names = sorted({"x"} | {name for name in "ryz" if "$" + name in text})
            self.check(text + ";echo $x", " ".join(names))
        self.check("read x && echo $x")
        self.check("! read x;echo $x")
        self.check("read x >f;echo $x", "x")
        self.check("read y 2>&-;echo $y")

    def test_ways_that_hold_their_sets(self):
        for text in ("a $(x=1)", "x=1|a", "a|x=1", "(x=1)", "f(){ x=1;}", "while x=1;do a;done", "until a;do x=1;done", "for x;do a;done",
                     "for y;do x=1;done", "case a in a) x=1;;esac", "case a in *) x=1;;esac", "a && x=1", "a || x=1", "if a;then x=1;fi",
                     "if a;then x=1;else b;fi", "if a;then b;else x=1;fi", "if a;then x=1;elif b;then x=1;fi", "a ${x=1}", "a \"${x:=1}\"",
                     "! (x=1)", "! x=1|a", "if a;then b;elif x=1;then x=1;fi", "y=${x=1}"):
            self.check(text + ";echo $x", "x")
        for text in ("{ x=1;}", "! x=1", "x=1 && a", "x=1 || a", "if x=1;then a;fi", "if a;then x=1;else x=2;fi", "{ { x=1;};a;}",
                     "if a;then x=1;elif x=2;then b;fi", "if a;then x=1;elif b;then x=1;else x=1;fi", "x=1;(x=2)", "! { x=1;}",
                     "if x=1;then a;else b;fi 2>&1"):
            self.check(text + ";echo $x")

    def test_what_is_known_within(self):
        self.check("x=1;a $(b $x)")
        self.check("x=1;a|b $x")
        self.check("x=1;(a $x)")
        self.check("x=1;f(){ a $x;}")
        self.check("f(){ a $x;};x=1", "x")
        self.check("a $(x=1;b $x)")
        self.check("(x=1;b $x);c $x", "x")
        self.check("a|{ x=1;b $x;}|c $x", "x")
        self.check("f(){ x=1;a $x;}")
        self.check("x=1 && a $x")
        self.check("a && x=1 && b $x", "x")
        self.check("x=1 || a $x")
        self.check("while x=1;do a $x;done")
        self.check("while a $x;do x=1;done", "x")
        self.check("until x=1;do a $x;done;b $x", "x")
        self.check("for x;do a $x;done;b $x", "x")
        self.check("for x in a;do y=1;b $x $y;done;c $y", "y")
        self.check("if x=1;then a $x;elif b $x;then c $x;else d $x;fi")
        self.check("if a;then x=1;elif b $x;then c;fi", "x")
        self.check("if a;then b;elif x=1;then c $x;else d $x;fi")
        self.check("case a in b) x=1;c $x;;d) e $x;;esac", "x")
        self.check("case a in b) x=1;;$x) c;;esac", "x")
        self.check("x=1;case $x in $x) a $x;;esac")
        self.check("x=1;{ a;} >$x")
        self.check("{ x=1;} >$x", "x")
        self.check("a ${x-$(x=1;b $x)}", "x")

    def test_ends_of_scripts(self):
        self.check("exit;echo $x", "x")
        self.check("x=1;exit;echo $x")
        self.check("return;x=1;echo $x")
        self.check("while a;do break;b $x;done", "x")
        self.check("f(){ return;a $x;}", "x")

    def test_names_in_order(self):
        self.check("a $b $B $_ $a1 $a $a1", "B _ a a1 b")


class SetsTest(unittest.TestCase):
    def check(self, text, names=""):
        with self.subTest(text=text):
            self.assertEqual(sets(read_script(text)), names.split())

    def test_sets(self):
        self.check("")
        self.check("a $x ${x-a} ${x?} ${x+} ${x#} b=c x")
        self.check("x=1 y=2 z= a", "x y z")
        self.check("b=1;a=2;b=3", "a b")
        self.check("for x;do y=1;done", "x y")
        self.check("a ${x=1} \"${y:=1}\" ${z-${w=1}} ${1-${v=1}} ${u#${t=1}} \"${s+\"${r=}\"}\"", "r t v w x y")
        self.check("a ${1=2} ${@=1} ${#:=1}")
        self.check("a >${x=1} <<E\n${y=1}\nE\n", "x y")
        self.check("x=${y=1}", "x y")

    def test_read(self):
        self.check("read x", "x")
        self.check("'read' x \"y\" 1 $z z* \\w ''", "w x y")
        self.check("read", "")
        self.check("read $x")
        self.check("$read x;re?d y;ready z;unset w")
        self.check("v=1 read x", "v x")

    def test_everywhere(self):
        for script, _ in around(("do", [("new", [])], [], [])):
            self.assertIn("new", sets(script))
        self.check("f(){ x=1;};(y=1)|a $(z=1;\"$(w=1)\")", "w x y z")
        self.check("if a=;then b=;elif c=;then d=;else e=;fi;while f=;do g=;done;until h=;do i=;done;for j in ${k=};do l=;done",
                   "a b c d e f g h i j k l")
        self.check("case ${a=} in ${b=}|${c=}) d=;;esac >${e=};! f=;g= && h= || i=", "a b c d e f g h i")


class ListsTest(unittest.TestCase):
    def command(self, text):
        return read_script(text)[0]

    def test_same_lists(self):
        for one, other, parting in (
                ("a", "a", None), ("a", "b", []), ("a && b", "a && b", None), ("a && b", "a || b", [False]), ("a", "! a", [False]),
                ("a && b", "a", [True]), ("a && b || c", "a || c", [True]), ("! { a;}", "{ a;}", [False]), ("a && b", "b && a", []),
                ("a && b && c", "a && b && d", [True, True]), ("a || b || c", "a || b || d", [False, False]), ("a|b", "a|b", None),
                ("a|b", "a|c", []), ("! a && b", "a || b", [True]), ("a && ! b", "a && b", [True, False]), ("! a || b", "a && b", [False]),
                ("a || b", "a || b && c", [True]), ("a && a", "a", [True]), ("a && a", "a && a", None), ("a || b && c", "a && c || b && c", [True, False]),
                ("a >f", "a", []), ("{ a && b;}", "a && b", []), ("! a|b", "a|b", [False]), ("a || b || c && d", "a || b || c || d", [True])):
            self.assertEqual(same_lists(self.command(one), self.command(other)), parting, (one, other))
            self.assertEqual(same_lists(one=self.command(other), other=self.command(one)), parting, (other, one))
        for kind in every_command():
            if kind not in ("and", "or", "not"):
                self.assertIsNone(same_lists(every_command()[kind], every_command()[kind]))

    def test_lists_that_are_told_as_trees(self):
        a, b, c = [("do", [], [bare(sign)], []) for sign in "abc"]
        self.assertIsNone(same_lists(("and", ("or", a, b), c), ("and", ("or", a, b), c)))
        self.assertEqual(same_lists(("or", ("and", a, b), c), ("and", a, b)), [False])
        self.assertEqual(same_lists(("and", ("not", a), ("not", b)), ("or", a, b)), [True])

    def by_hand(self, command, answers):
        """What a list does behind some answers: the next pipe, or the truth at its end."""
        left = list(answers)

        def walk(tree):
            if tree[0] == "not":
                return not walk(tree[1])
            if tree[0] == "and":
                return walk(tree[1]) and walk(tree[2])
            if tree[0] == "or":
                return walk(tree[1]) or walk(tree[2])
            if not left:
                raise LookupError(tree)
            return left.pop(0)
        try:
            return walk(command), not left
        except LookupError as error:
            return error.args[0], True

    def test_same_lists_by_hand(self):
        texts = ["a", "! a", "a && b", "a || b", "a && ! b", "! a || b", "a && b || c", "a || b && c", "! a && ! b || c", "a && b && a",
                 "a || a && b", "a && a || b"]
        for one, other in itertools.product([self.command(text) for text in texts], repeat=2):
            expected = None
            for length in range(5):
                for answers in itertools.product([False, True], repeat=length):
                    mine, yours = self.by_hand(one, answers), self.by_hand(other, answers)
                    if expected is None and mine != yours and mine[1] and yours[1]:
                        expected = list(answers)
            self.assertEqual(same_lists(one, other), expected, (one, other))

    def test_list_comes_to(self):
        for text, truths in (("a", [False, True]), ("! a", [False, True]), ("a && b", [False, True]), ("a && ! a", [False]), ("a || ! a", [True]),
                             ("a && a", [False, True]), ("! a && a", [False]), ("! a || a", [True]), ("a && b && ! a", [False]),
                             ("a && b || ! a", [False, True]), ("a || b || ! a", [True]), ("a && b || ! a || ! b", [True]), ("a|b && ! a|b", [False]),
                             ("a|b && ! a|c", [False, True]), ("{ a;} || ! { a;}", [True]), ("true", [False, True]), ("a >f || ! a", [False, True])):
            self.assertEqual(list_comes_to(command=self.command(text)), truths, text)

    def test_ten_pipes(self):
        text = " && ".join("abcdefghi") + " && ! a"
        self.assertEqual(list_comes_to(self.command(text)), [False])
        self.assertIsNone(same_lists(self.command(text), self.command(text)))
        self.assertEqual(same_lists(self.command(text), self.command(text.replace("! ", ""))), [True] * 9 + [False])
        mixed = "a && b || c && d || e && f || g && h || i && j"
        self.assertEqual(list_comes_to(self.command(mixed)), [False, True])
        self.assertIsNone(same_lists(self.command(mixed), self.command(mixed)))

    def test_wrong_trees(self):
        for script, _ in around(WRONG):
            for call in (reads, sets):
                with self.assertRaises(InvalidTree) as caught:
                    call(script=script)
                self.assertEqual(caught.exception.value, script)
                self.assertIsNot(caught.exception.value, script)
            command = ("group", script, [])
            for call in (list_comes_to, lambda told: same_lists(told, A), lambda told: same_lists(A, told), lambda told: same_lists(told, WRONG)):
                with self.assertRaises(InvalidTree) as caught:
                    call(command)
                self.assertEqual(caught.exception.value, command)
        for command in (("and", A), ("not", ("not", A)), ("and", A, ("or", A, A)), ("pipe", [A])):
            self.assertRaises(InvalidTree, list_comes_to, command)

    def test_nothing_passed_is_changed(self):
        script = read_script("x=1 a ${y=$z} && read w || ! { b $x;}")
        ahead = copy.deepcopy(script)
        for call in (reads, sets):
            self.assertIsNot(call(script), call(script))
        list_comes_to(script[0])
        same_lists(script[0], script[0])
        self.assertEqual(script, ahead)
