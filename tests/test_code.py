"""[2], [3], [16] and code.py: code that does what scripts do, and the passes, place by place."""

import copy
import unittest

from quotedback.code import (
    all_passes, compiled, dead_left_out, folded_words, fused, run_code, same_events, shorter, status_free, unquoted,
)
from quotedback.errors import InvalidNumber, InvalidTree, InvalidWorld, TooLong
from quotedback.readings import read_script
from quotedback.runs import run
from quotedback.texts import show_script
from tests.building import WRONG, A, around, every_command, lists_in
from tests.test_worlds import WRONG_WORLDS
from tests.worlds_told import world

SCRIPTS = [
    "", "echo a", "a && b || c && d", "! a | b", "if a; then b; fi", "if true; then if false; then a; else echo b; fi; fi", "while read x; do break; done", "until true; do :; done",
    "for x in 1 2; do for y; do continue 2; done; done", "case a in (b | a) echo 1;; *) ;; esac", "f() { return 3; }; f", "(exit 3; echo a) >f; { echo b; } >>f; cat f",
    "while :; do if read x; then echo $x; else break; fi; done", "for x in 1 2 3; do case $x in 1) continue;; 2) break;; esac; done; echo $x", "echo $(echo a; exit 4) | { cat; } | cat",
    "if a; then :; elif b; then :; elif true; then echo c; else :; fi", "while true; do while true; do break 2; done; done", "{ { { echo a; }; }; } 2>f",
]


class CodeTest(unittest.TestCase):
    def test_code_does_what_scripts_do(self):
        for text in SCRIPTS:
            script = read_script(text)
            code = compiled(script=script)
            self.assertIsInstance(code, list)
            less = shorter(code=code)
            self.assertLessEqual(len(less), len(code))
            for told in (world({}, arguments=["p", "q"]), world(folder="/d", names={"x": "7"}, status=3)):
                wanted = run(script, told, "1\n2\n", 60)
                for one in (code, copy.deepcopy(code), less, copy.deepcopy(less), shorter(less)):
                    ahead = copy.deepcopy((one, told))
                    self.assertEqual(run_code(code=one, world=told, text="1\n2\n", limit=60), wanted, text)
                    self.assertEqual((one, told), ahead)

    def test_code_is_shorter_where_it_only_goes_on(self):
        for text in ("case a in b) c;; esac", "while a; do case $x in b) c;; d) e;; esac; done", "f | case a in esac"):
            code = compiled(read_script(text))
            self.assertLessEqual(len(shorter(code)), len(code) - (1 if ")" in text else 0), text)

    def test_code_is_new(self):
        result = ()
        for command in every_command().values():
            script = [command]
            code = compiled(script)
            less = shorter(code)
            self.assertEqual(set(lists_in(code)) & set(lists_in(script)), set())
            self.assertEqual(set(lists_in(less)) & set(lists_in(code)), set())
            for one in (code, less):
                self.assertEqual(len(lists_in(one)), len(set(lists_in(one))))
            if command[0] != "until":
                result = run_code(code, world({}), "", 90)
            self.assertEqual(set(lists_in(result)) & set(lists_in(code)), set())
            self.assertEqual(len(lists_in(result)), len(set(lists_in(result))))

    def test_errors(self):
        for script, _ in around(WRONG):
            for call in (compiled, folded_words, dead_left_out, unquoted, fused, all_passes, status_free, lambda told: same_events(told, [WRONG], [(WRONG_WORLDS[0], "")], -1),
                         lambda told: same_events([A], told, [(WRONG_WORLDS[0], "")], -1)):
                with self.assertRaises(InvalidTree) as caught:
                    call(script)
                self.assertEqual(caught.exception.value, script)
                self.assertEqual(set(lists_in(caught.exception.value)) & set(lists_in(script)), set())
        code = compiled([A, A])
        for told in WRONG_WORLDS:
            with self.assertRaises(InvalidWorld) as caught:
                run_code(code, told, "", -1)
            self.assertEqual(caught.exception.value, told)
            with self.assertRaises(InvalidWorld):
                same_events([A], [A], [(world(), ""), (told, "")], -1)
        for call in (lambda: run_code(code, world(), "", -1), lambda: same_events([A], [A], [(world(), "")], -1)):
            with self.assertRaises(InvalidNumber) as caught:
                call()
            self.assertEqual(caught.exception.value, -1)
        with self.assertRaises(TooLong) as caught:
            run_code(code, world(), "", 1)
        self.assertEqual(caught.exception.value, 1)
        with self.assertRaises(TooLong) as caught:
            run_code(compiled(read_script("x=$x$x$x$x$x$x$x$x$x$x$x")), world(names={"x": "a" * 400}), "", 99)
        self.assertEqual(caught.exception.value, 99)


class PassesTest(unittest.TestCase):
    def check(self, call, text, behind, places):
        """Checks a pass of a script with a text: the text of the one behind it, and the places."""
        with self.subTest(text=text):
            script = read_script(text)
            ahead = copy.deepcopy(script)
            got, told = call(script=script)
            self.assertEqual(show_script(got), show_script(read_script(behind)))
            self.assertEqual(got, read_script(behind))
            self.assertEqual(told, places)
            self.assertEqual(script, ahead)
            self.assertEqual(set(lists_in((got, told))) & set(lists_in(script)), set())
            self.assertEqual(len(lists_in((got, told))), len(set(lists_in((got, told)))))

    def stays(self, call, *texts):
        for text in texts:
            self.check(call, text, text, [])

    def test_folded_sums(self):
        self.check(folded_words, "echo \"a$((1+2))b\"", "echo \"a3b\"", [[0]])
        self.check(folded_words, "x=$((2*3)) y=\"$((4-5))\" a", "x='6' y=\"-1\" a", [[0]])
        self.check(folded_words, "x=a$((1))'b'$((2))\\c$y", "x=a'1b2c'$y", [[0]])
        self.check(folded_words, "\"$((1))$((2))$x$((3))\"", "\"12${x}3\"", [[0]])
        self.check(folded_words, "a; b <<E\n$((1))\nE\nc", "a; b <<E\n1\nE\nc", [[1]])
        self.check(folded_words, "echo ${x-\"$((1))\"} >\"$((7))\"", "echo ${x-\"1\"} >\"7\"", [[0]])
        self.check(folded_words, "x=\"${y-$((1))}\"$((1))", "x=\"${y-$((1))}\"'1'", [[0]])
        self.check(folded_words, "x=$(y=$((1)))", "x=$(y='1')", [[0, 1, 0, 1, 0, 1, 0]])
        self.stays(folded_words, "echo $((1+2))", "\"$((x))\"", "\"$((1/0))\"", "x=$((y))", "x=${y=$((1))}", "x=${y-$((1))}", "for x in $((1)); do a; done", "case $((1)) in $((2))) ;; esac",
                   "a >$((1))", "\"${x-$((1))}\"", "\"$((" + "9" * 41 + "))\"")

    def test_folded_held_signs(self):
        self.check(folded_words, "'a''b' \\c\\d'e'\"f\"\\g'h'", "'ab' 'cde'\"f\"'gh'", [[0]])
        self.check(folded_words, "''\\ ''", "' '", [[0]])
        self.check(folded_words, "a ${x-'b'\\c} ${y##\\*'?'}", "a ${x-'bc'} ${y##'*?'}", [[0]])
        self.check(folded_words, "\"${x-\\a\\b}\"", "\"${x-'ab'}\"", [[0]])
        self.check(folded_words, "'a'\\''b'\\\"'c'", "'a'\\''b\"c'", [[0]])
        self.check(folded_words, "x='a''b' for 'c''d' >'e''f'", "x='ab' for 'cd' >'ef'", [[0]])
        self.check(folded_words, "for x in \\a\\b; do :; done; case \\a\\b in \\c\\d) \\e\\f;; esac", "for x in 'ab'; do :; done; case 'ab' in 'cd') 'ef';; esac", [[0], [1], [1, 2, 0, 1, 0]])
        self.stays(folded_words, "\\a b'c' \\'\\' 'd'e\\f", "'a'\\'", "\\a\"b\"'c'")

    def test_places_of_folded_words(self):
        inner = "x=\\a\\b"
        behind = "x='ab'"
        for around_it, path in (
                ("{ a; X; }", [0, 1, 1]), ("(X)", [0, 1, 0]), ("a | X", [0, 1, 1]), ("! X", [0, 1]), ("X && a", [0, 1]), ("a || X", [0, 2]), ("f() { X; }", [0, 2, 1, 0]),
                ("if X; then a; fi", [0, 1, 0, 0, 0]), ("if a; then b; elif c; then d; X; fi", [0, 1, 1, 1, 1]), ("if a; then b; else X; fi", [0, 2, 0]), ("while X; do a; done", [0, 1, 0]),
                ("until a; do X; done", [0, 2, 0]), ("for x; do X; done", [0, 3, 0]), ("case a in b) ;; c) X;; esac", [0, 2, 1, 1, 0]), ("a $(X)", [0, 2, 1, 0, 1, 0]),
                ("y=b\"$(X)\" a", [0, 1, 0, 1, 1, 1, 0, 1, 0]), ("a >b${y-$(X)}", [0, 3, 0, 2, 1, 2, 2, 0, 1, 0]), ("{ a; } <$(X)", [0, 2, 0, 2, 0, 1, 0]),
                ("for x in $(X); do a; done", [0, 2, 0, 0, 1, 0]), ("case $(X) in a) ;; esac", [0, 1, 0, 1, 0]), ("case a in b|$(X)) ;; esac", [0, 2, 0, 0, 1, 0, 1, 0]),
                ("case a in esac >$(X)", [0, 3, 0, 2, 0, 1, 0]), ("if a; then b; fi >$(X)", [0, 3, 0, 2, 0, 1, 0]), ("for x; do a; done >$(X)", [0, 4, 0, 2, 0, 1, 0])):
            self.check(folded_words, around_it.replace("X", inner), around_it.replace("X", behind), [path])
        self.check(folded_words, "a\\b\\c \"$(\\d\\e)\" \\f\\g", "a'bc' \"$('de')\" 'fg'", [[0], [0, 2, 1, 0, 1, 0, 1, 0]])
        self.check(folded_words, "{ \\a\\b; } >\\c\\d; \\e\\f", "{ 'ab'; } >'cd'; 'ef'", [[0], [0, 1, 0], [1]])

    def test_dead_ends(self):
        self.check(dead_left_out, "echo a; exit 3; echo b; echo c", "echo a; exit 3", [[1]])
        self.check(dead_left_out, "return; a", "return", [[0]])
        self.check(dead_left_out, "{ exit 255; a; }; b", "{ exit 255; }; b", [[0, 1, 0]])
        self.check(dead_left_out, "f() { return 0; a; }; (exit; b); exit; while exit; c; do d; done", "f() { return 0; }; (exit); exit", [[0, 2, 1, 0], [1, 1, 0], [2]])
        self.check(dead_left_out, "a $(exit; b) >$(return; c)", "a $(exit) >$(return)", [[0, 2, 1, 0, 1, 0], [0, 3, 0, 2, 0, 1, 0]])
        self.check(dead_left_out, "case a in b) exit; c;; esac; if exit; a; then exit; b; else exit; c; fi", "case a in b) exit;; esac; if exit; then exit; else exit; fi",
                   [[0, 2, 0, 1, 0], [1, 1, 0, 0, 0], [1, 1, 0, 1, 0], [1, 2, 0]])
        self.check(dead_left_out, "exit; exit; a", "exit", [[0]])
        self.stays(dead_left_out, "a; exit", "exit 256; a", "exit 01; a", "exit -1; a", "exit '3'; a", "exit $x; a", "'exit'; a", "x=1 exit; a", "exit >f; a", "exit 1 2; a", "exit a; a",
                   "{ exit; }; a", "exit && a; b", "! exit; a", "exit | a; b", "break; a", "\"exit\"; a", "exit \"3\"; a")

    def test_dead_arms(self):
        self.check(dead_left_out, "if false; then a; fi", "{ false; :; }", [[0]])
        self.check(dead_left_out, "if false; then a; else b; c; fi", "{ false; b; c; }", [[0]])
        self.check(dead_left_out, "if false; then a; elif b; then c; elif d; then e; else f; fi", "{ false; if b; then c; elif d; then e; else f; fi; }", [[0]])
        self.check(dead_left_out, "if true; then a; elif b; then c; else d; fi", "{ true; a; }", [[0]])
        self.check(dead_left_out, "if :; then a; b; fi", "{ :; a; b; }", [[0]])
        self.check(dead_left_out, "if a; then b; elif true; then c; d; elif e; then f; else g; fi", "if a; then b; else true; c; d; fi", [[0]])
        self.check(dead_left_out, "if a; then b; elif :; then c; fi", "if a; then b; else :; c; fi", [[0]])
        self.check(dead_left_out, "if a; then b; elif :; then c; elif true; then d; fi", "if a; then b; else :; c; fi", [[0]])
        self.check(dead_left_out, "if false; then a; elif true; then b; else c; fi", "{ false; if true; then b; else c; fi; }", [[0]])
        self.check(dead_left_out, "if a; then b; elif false; then c; elif true; then d; fi", "if a; then b; elif false; then c; else true; d; fi", [[0]])
        self.stays(dead_left_out, "if false; then a; fi >f", "if true; then a; fi 2>&1", "if false a; then b; fi", "if 'true'; then a; fi", "if true; false; then b; fi", "if ! true; then a; fi",
                   "if false; true; then b; fi", "if a; then b; elif false; then c; fi", "if x=1 true; then a; fi", "if true >f; then a; fi", "if { true; }; then a; fi")

    def test_dead_loops(self):
        for text in ("while false; do a; done", "until true; do a; done", "until :; do a; done"):
            self.check(dead_left_out, text, ":", [[0]])
            self.check(dead_left_out, "b | " + text, "b | :", [[0, 1, 1]])
            self.check(dead_left_out, "! " + text, "! :", [[0, 1]])
            self.check(dead_left_out, "b && " + text, "b && :", [[0, 2]])
            self.stays(dead_left_out, "f() " + text, text + " >f")
        self.stays(dead_left_out, "while true; do a; done", "while :; do a; done", "until false; do a; done", "while false; false; do a; done")
        self.check(dead_left_out, "f() if false; then a; fi", "f() { false; :; }", [[0, 2]])
        self.check(dead_left_out, "f() while false; do exit; a; done", "f() while false; do exit; done", [[0, 2, 2, 0]])

    def test_what_is_left_out_is_not_looked_at_within(self):
        dead = "exit; a"
        self.check(dead_left_out, "if false; then " + dead + "; elif b; then " + dead + "; else " + dead + "; fi", "{ false; if b; then exit; else exit; fi; }",
                   [[0], [0, 1, 1, 1, 0], [0, 2, 0]])
        self.check(dead_left_out, "if false; then " + dead + "; else " + dead + "; fi", "{ false; exit; }", [[0], [0, 2, 0]])
        self.check(dead_left_out, "if b; then " + dead + "; elif true; then " + dead + "; elif c; then " + dead + "; else " + dead + "; fi", "if b; then exit; else true; exit; fi",
                   [[0], [0, 1, 0, 1, 0], [0, 1, 1, 1, 0]])
        self.check(dead_left_out, "while false; do " + dead + "; done", ":", [[0]])
        self.check(dead_left_out, "exit; { " + dead + "; }", "exit", [[0]])
        self.check(dead_left_out, "if true; then if false; then a; fi; fi", "{ true; { false; :; }; }", [[0], [0, 1, 0, 1, 0]])

    def test_unquoted(self):
        self.check(unquoted, "echo \"a\" b\"c \\$\"", "echo 'a' b'c $'", [[0]])
        self.check(unquoted, "x=\"$y\" z=a\"${#y}\"\"$1\"b a \"$y\"", "x=$y z=a${#y}$1b a \"$y\"", [[0]])
        self.check(unquoted, "a >\"b c\" <\"d\"", "a >'b c' <'d'", [[0]])
        self.check(unquoted, "a <<E\nb\nE\nc", "a <<'E'\nb\nE\nc", [[0]])
        self.check(unquoted, "{ a; } <<E\n\\$b\nE\n", "{ a; } <<'E'\n$b\nE\n", [[0]])
        self.check(unquoted, "a ${x-\"b\"} \"${x-\"c\"}\" ${x#\"*\"}", "a ${x-'b'} \"${x-'c'}\" ${x#'*'}", [[0]])
        self.check(unquoted, "x=${y=\"a\"}\"${z=\"$w\"}\"", "x=${y='a'}\"${z=\"$w\"}\"", [[0]])
        self.check(unquoted, "x=\"$(\"a\")\"", "x=\"$('a')\"", [[0, 1, 0, 1, 0, 1, 0, 1, 0]])
        self.check(unquoted, "case \"a\" in \"b\"|\"c\") for x in \"d\"; do :; done;; esac", "case 'a' in 'b'|'c') for x in 'd'; do :; done;; esac", [[0], [0, 2, 0, 1, 0]])
        self.check(unquoted, "x=\"$?\" y=\"$#\" z=\"$0\" w=\"${#@}\"", "x=$? y=$# z=$0 w=\"${#@}\"", [[0]])
        self.stays(unquoted, "a \"b'c\"", "a \"\"", "x=\"\"", "a \"$x\"", "a \"b$x\"", "x=\"$@\"", "x=\"$*\"", "x=\"${y-a}\"", "x=\"$y$z\"", "x=\"a$y\"", "x=\"$((1))\"", "x=\"$(a)\"", "a <<E\n$x\nE\n",
                   "a <<E\nE\n", "a <<E\nit's\nE\n", "a <<'E'\nb\nE\n", "x=${y=\"$z\"}", "x=\"${#*}\"")

    def test_fused(self):
        self.check(fused, "cat f | keep 'a*' | keep 'a*' | cat", "cat f | keep 'a*' | cat", [[0]])
        self.check(fused, "a | first 3 | first 1 | first 2 | b", "a | first 1 | b", [[0]])
        self.check(fused, "a | keep \"a\" | 'keep' \\b | drop a | c", "a | keep \"a\" | 'keep' \\b | c", [[0]])
        self.check(fused, "a | swap ab ba | swap ab ba | drop x | c", "a | drop x | c", [[0]])
        self.check(fused, "a | keep 'a*' | order | keep 'a*' | keep 'a*' | c", "a | keep 'a*' | order | keep 'a*' | c", [[0]])
        self.check(fused, "b; ! a | keep a | keep a | c && a | drop a | drop a | c", "b; ! a | keep a | c && a | drop a | c", [[1, 1, 1], [1, 2]])
        self.check(fused, "a $(b | keep a | keep a | c)", "a $(b | keep a | c)", [[0, 2, 1, 0, 1, 0]])
        self.check(fused, "a | first 1 | first 2 | first 3 | first 3 | first 2 | b", "a | first 1 | b", [[0]])
        self.check(fused, "a | keep a | first 4 | keep a | keep a | b", "a | keep a | first 4 | keep a | b", [[0]])
        self.check(fused, "a | keep '*' | keep '?*' | keep '*' | b", "a | keep '?*' | b", [[0]])
        self.check(fused, "a | keep '????' | keep '????' | b", "a | keep '????' | b", [[0]])
        self.stays(fused, "keep a | keep a | cat", "cat | keep a | keep a", "keep a | keep a", "a | keep '*' | b", "a | swap a a | keep '*' | b", "a | keep a | keep a >f | b", "a | x=1 keep a | keep a | b",
                   "a | keep a* | keep a* | b", "a | keep $x | keep $x | b", "a | keep \"$x\" | keep \"$x\" | b", "a | keep a'b' | keep a'b' | b", "a | keep '?????' | keep '?????' | b", "a | order | order | b",
                   "a | first 1 | first 2 | first 3 | first 3 | first 2 | first 2 | b", "a | keep '???' | keep '???' | keep '???' | b", "a | first 4 | first 4 | b", "a | once | once | b",
                   "a | keep | keep | b", "a | keep a b | keep a b | b", "a | keep a | keep b | b", "a | keep \"\" | keep \"\" | b", "a | last 1 | last 1 | b")

    def test_filters_side_by_side(self):
        # Eight tuples of patterns, and one more.
        self.check(fused, "a | keep '??' | keep '??' | keep '??' | keep '??' | b", "a | keep '??' | b", [[0]])
        self.stays(fused, "a | keep '??' | keep '??' | keep '??' | keep '???' | b")
        # Groups and applications part them in this pass.
        self.check(fused, "a | keep a | { keep a; } | keep a | b", "a | keep a | keep a | keep a | b", [[0, 1, 2]])
        self.check(fused, "a | keep a | (keep a) | keep a | keep a | b", "a | keep a | (keep a) | keep a | b", [[0]])
        self.check(fused, "{ a; } | keep a | keep a | { { b; }; c; }", "a | keep a | { b; c; }", [[0], [0, 1, 0], [0, 1, 3, 1, 0]])

    def test_groups_of_one_command(self):
        self.check(fused, "{ a; }", "a", [[0]])
        self.check(fused, "{ { { a; }; }; }", "a", [[0], [0, 1, 0], [0, 1, 0, 1, 0]])
        self.check(fused, "{ a | b; }; { a && b; }; { ! a; }; { f() { a; }; }; { (a); }", "a | b; a && b; ! a; f() { a; }; (a)", [[0], [1], [2], [3], [4]])
        self.check(fused, "f() { (a); }; g() { if a; then { b; }; fi; }", "f() (a); g() if a; then b; fi", [[0, 2], [1, 2], [1, 2, 1, 0, 1, 0, 1, 0]])
        self.check(fused, "! { a | b; }; { a; } | b; { a && b; } && { c; }", "! a | b; a | b; a && b && c", [[0, 1], [1, 1, 0], [2, 1], [2, 2]])
        self.check(fused, "a && { ! b; } || { c | d; }", "a && ! b || c | d", [[0, 1, 2], [0, 2]])
        self.check(fused, "f() { { a; }; }", "f() { a; }", [[0, 2]])
        self.check(fused, "echo $({ a; })", "echo $(a)", [[0, 2, 1, 0, 1, 0]])
        self.stays(fused, "{ a; b; }", "{ a; } >f", "(a)", "f() { a; }", "f() { a | b; }", "a | { b | c; }", "a | { ! b; }", "a | { b && c; }", "! { ! a; }", "! { a && b; }", "a && { b && c; }", "a || { b || c; }",
                   "f() { ! a; }", "f() { g() { a; }; }")

    def test_all_passes(self):
        self.check(all_passes, "x=\"$y\" ; if false; then a; else \"b\"; fi", "x=$y; { false; 'b'; }", [[1], [0], [1, 1, 1]])
        self.check(all_passes, "if true; then exit; a; fi", "{ true; exit; }", [[0], [0, 1, 0, 1, 0]])
        self.check(all_passes, "if false; then a; elif true; then b; fi", "{ false; { true; b; }; }", [[0], [0, 1, 1]])
        self.check(all_passes, "\"a\"\"b\"$x", "'ab'$x", [[0], [0]])
        self.check(all_passes, "a | keep a | { keep a; } | b", "a | keep a | b", [[0, 1, 2], [0]])
        self.check(all_passes, "x=\"$((1))\"", "x='1'", [[0], [0]])
        self.stays(all_passes, "", "a", "a | b")

    def test_same_events(self):
        one, other = read_script("echo a"), read_script("{ e=echo; $e a; }")
        self.assertIsNone(same_events(one=one, other=read_script("'echo' \"a\""), worlds=[(world(), ""), (world({}), "x")], limit=9))
        self.assertEqual(same_events(one, other, [(world(), "")], 9), 0)
        self.assertIsNone(same_events(one, other, [], 9))
        worlds = [(world({}), ""), (world({}), "p\n"), (world(), "q\n")]
        self.assertEqual(same_events(read_script("cat"), read_script("cat f"), worlds, 9), 0)
        self.assertEqual(same_events(read_script("cat; true"), read_script(":"), worlds, 9), 1)
        self.assertEqual(same_events(read_script("true; cat >&-; test -f a"), read_script("false"), worlds, 9), 2)
        self.assertIsNone(same_events(read_script("true; true"), read_script("true"), worlds, 9))
        self.assertEqual(same_events(read_script("true"), read_script("false"), worlds, 9), 0)
        long = read_script("while read x; do :; done; true")
        self.assertIsNone(same_events(read_script("read x; read x"), read_script("read x; read x"), worlds, 2))
        with self.assertRaises(TooLong) as caught:
            same_events(long, [A], [(world(), "")], 2)
        self.assertEqual(caught.exception.value, 2)
        with self.assertRaises(TooLong):
            same_events([A], long, [(world(), "")], 2)
        # A world at which they part comes ahead of one in which one of them takes too many steps.
        endless = read_script("read x; while test \"$x\"; do :; done")
        self.assertEqual(same_events(endless, [A], [(world(), ""), (world(), "a\n")], 20), 0)
        with self.assertRaises(TooLong):
            same_events(endless, [A], [(world(), "a\n"), (world(), "")], 20)

    def free(self, truth, *texts):
        for text in texts:
            self.assertIs(status_free(script=read_script(text)), truth, text)

    def test_status_free(self):
        self.free(True, "", "echo a", "true; echo $?", "x=1", ">f", "x=$y a=$# echo $x", "return 3", "exit 0", "exit 255; echo $?", "f() { echo $?; }", "f() { a; }; echo $?", "echo a && echo $?",
                  "true || a $?", "true | echo", "! true", "{ :; } >f", "(true; echo $?)", "if true; then echo $?; else a; fi", "while test a; do echo $?; done", "for x in a; do echo a; echo $?; done",
                  "case a in b) ;; *) echo;; esac", "case a in esac", "echo $(true; echo $?)", "echo \"${x-$(x=$y)}\"", "read x <<E\n$y\nE\n", "echo '$?' \\$?", "break", "continue a", "test $x", "echo $()")
        self.free(False, "echo $?", "x=$?", "true >$?", "true <$?", "echo \"$?\"", "echo ${x-$?}", "echo ${?-a}", "echo ${#?}", "echo $(($? + 1))", "echo \"${x-${y-$?}}\"", "echo ${x#$?}", "read x <<E\n$?\nE\n",
                  "return", "exit", "exit $x", "exit '3'", "exit 256", "exit 1 2", "exit a", "return 01", "cat f", "f", "'echo' a", "\"echo\"", "e\\cho", "$x", "nix", "x=1 f", "order",
                  "echo $? && true", "cat && true", "true | cat", "cat | true", "! cat", "{ cat; }", "(exit)", "(true) >$?", "{ true; } <$(($?))", "if cat; then true; fi", "while cat; do true; done",
                  "until return; do :; done", "while true; do :; done >$?", "for x in $?; do :; done", "for x in a; do cat; done", "for x; do echo $?; done", "case $? in a) ;; esac", "case a in $?) ;; esac",
                  "case a in b) ;; c) cat;; esac", "echo $(cat)", "x=$(echo $?)", "echo >$(exit)", "echo \"${x-$(cat)}\"", "echo $(true) $(cat)", "if true; then :; fi >$?")


if __name__ == "__main__":
    unittest.main()
