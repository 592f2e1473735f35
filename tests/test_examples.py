"""The examples of the document, as far as their modules are there."""

import unittest

from quotedback.patterns import (
    common, first_apart, heads, least_text, meets, never_met, pattern_of, same, tails, unmet, within,
)
from quotedback.readings import is_shown, quote, quote_all, read_script, read_sum, read_word, tidied
from quotedback.sums import folded, names_in, worked_out
from quotedback.texts import show_script, show_sum, show_word
from quotedback.trees import calls, commands_in, depth, first_wrong, is_script, is_word, words_of


class ExamplesTest(unittest.TestCase):
    def test_trees(self):
        echo = ("do", [], [[("bare", "echo")], [("wide", [("name", "x", ())])]], [])
        script = [
            ("if", [([echo], [("do", [("x", [])], [], [])])], None, []),
            ("pipe", [echo, ("do", [], [[("held", "sort")]], [])]),
        ]
        told = [
            is_word([("bare", "a"), ("bare", "b")]), is_script(script), commands_in(script), depth(script),
            calls(script), len(words_of(script)), is_script([("do", [], [], [])]),
        ]
        self.assertEqual(told, [False, True, 6, 2, ["echo", "sort"], 6, False])
        self.assertIsNone(first_wrong(script))

    def test_readings(self):
        told = [
            read_word("a'b c'\"$x\""), show_word([("name", "x", ("cut", "##", [("bare", "*/")])), ("bare", "z")]),
            read_sum("1+2*x"), show_sum(("*", ("+", ("number", 1), ("of", "x")), ("minus", ("number", 2)))), quote("it's"),
            quote_all(["a", "b c", ""]),
        ]
        self.assertEqual(told, [
            [("bare", "a"), ("held", "b c"), ("wide", [("name", "x", ())])], "${x##*/}z",
            ("+", ("number", 1), ("*", ("number", 2), ("of", "x"))), "(1 + x) * -2", [("wide", [("plain", "it's")])], "a 'b c' ''",
        ])
        told = [
            tidied("if a;then b;fi"), is_shown("a | b"), tidied("cat <<X # all\nhi $x\nX\n"), read_script("x=1 y >z 2>&1"),
        ]
        turns = [(1, ">", [("bare", "z")]), (2, ">&", [("bare", "1")])]
        self.assertEqual(told, [
            "if\na\nthen\nb\nfi", True, "cat <<E\nhi $x\nE\n",
            [("do", [("x", [("bare", "1")])], [[("bare", "y")]], turns)],
        ])
        self.assertEqual(show_script(told[3]), "x=1 y >z 2>&1")

    def test_sums(self):
        told = [
            worked_out(read_sum("x * 3 - 7 / -2"), {"x": "5"}, []), worked_out(read_sum("0 && 1 / 0"), {}, []),
            worked_out(read_sum("-7 ^ 3"), {}, []), names_in(read_sum("a + b * a")), folded(read_sum("x + 2 * 3")),
            folded(read_sum("1 || x")),
        ]
        self.assertEqual(told, [18, 0, -1, ["a", "b"], ("+", ("of", "x"), ("number", 6)), ("number", 1)])

    def test_patterns(self):
        star, a_star = [("lot",)], [("one", "a"), ("lot",)]
        told = [
            meets(a_star, "abc"), heads(a_star, "ab"), tails([("any",), ("one", "c")], "abc"),
            least_text([("any",), ("lot",), ("one", "b")]), same([("lot",), ("any",)], [("any",), ("lot",)]), within(a_star, star),
            first_apart(star, a_star), common(a_star, [("lot",), ("one", "b")]),
        ]
        self.assertEqual(told, [True, [1, 2], [2], "\nb", True, True, "", "ab"])
        signs = [("[", "bare"), ("a", "bare"), ("-", "bare"), ("c", "bare"), ("]", "bare"), ("*", "firm")]
        told = [never_met([[a_star], [star], [[("any",)]]]), unmet([[a_star], [[("lot",), ("one", "b")]]]), pattern_of(signs)]
        self.assertEqual(told, [[2], "", [("of", False, [("a", "c")]), ("one", "*")]])
