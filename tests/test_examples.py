"""The examples of the document, as far as their modules are there."""

import unittest

from quotedback.texts import show_script, show_sum, show_word
from quotedback.trees import calls, commands_in, depth, first_wrong, is_script, is_word, words_of


class ExamplesTest(unittest.TestCase):
    def test_trees(self):
        echo = ("do", [], [[("bare", "echo")], [("wide", [("name", "x", ())])]], [])
        script = [
            ("if", [([echo], [("do", [("x", [])], [], [])])], None, []),
            ("pipe", [echo, ("do", [], [[("held", "sort")]], [])]),
        ]
        told = [
            is_word([("bare", "a"), ("bare", "b")]), is_script(script), commands_in(script), depth(script),
            calls(script), len(words_of(script)), is_script([("do", [], [], [])]),
        ]
        self.assertEqual(told, [False, True, 6, 2, ["echo", "sort"], 6, False])
        self.assertIsNone(first_wrong(script))

    def test_texts_of_the_readings(self):
        word = [("name", "x", ("cut", "##", [("bare", "*/")])), ("bare", "z")]
        self.assertEqual(show_word(word), "${x##*/}z")
        tree = ("*", ("+", ("number", 1), ("of", "x")), ("minus", ("number", 2)))
        self.assertEqual(show_sum(tree), "(1 + x) * -2")
        self.assertEqual(show_word([("held", "b c")]), "'b c'")
        self.assertEqual(show_word([("held", "")]), "''")
        self.assertEqual(show_word([("wide", [("plain", "it's")])]), '"it\'s"')

    def test_scripts_of_the_readings(self):
        a, b = [("do", [], [[("bare", sign)]], []) for sign in "ab"]
        self.assertEqual(show_script([("if", [([a], [b])], None, [])]), "if\na\nthen\nb\nfi")
        self.assertEqual(show_script([("pipe", [a, b])]), "a | b")
        here = (0, "<<", [("wide", [("plain", "hi "), ("name", "x", ()), ("plain", "\n")])])
        self.assertEqual(show_script([("do", [], [[("bare", "cat")]], [here])]), "cat <<E\nhi $x\nE\n")
        turns = [(1, ">", [("bare", "z")]), (2, ">&", [("bare", "1")])]
        self.assertEqual(show_script([("do", [("x", [("bare", "1")])], [[("bare", "y")]], turns)]), "x=1 y >z 2>&1")
