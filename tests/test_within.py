"""`depth`, `commands_in`, `calls`, `words_of`."""

import copy
import unittest

from quotedback.errors import InvalidTree
from quotedback.texts import show_script
from quotedback.trees import calls, commands_in, depth, words_of
from tests.building import (
    A, B, C, D, WRONG, around, bare, do, every_command, held_here, here, in_word, lists_in, name, run,
)

WRONG_SCRIPTS = [[WRONG], [A, ("odd", [1, {"a": []}])], [("pipe", [A])], [("group", [A, WRONG], [])], [do("if")]]
WRONG_WORDS = [[("bare", "")], [("bare", "a"), ("bare", "b")], [("held", "'")], [run(WRONG)], [("odd", [[]])]]


def deepened(script, times):
    """A script with one more command, in a word or a block, around it, so many times."""
    for at in range(times):
        script = [do(in_word(script[0]))] if at % 2 else [("while", [A], script, [])]
    return script


class DepthTest(unittest.TestCase):
    def test_scripts(self):
        self.assertEqual(depth([]), 0)
        self.assertEqual(depth([A]), 1)
        self.assertEqual(depth([A, B, C]), 1)
        self.assertEqual(depth([do([run()])]), 1)
        for command in every_command().values():
            told = {"do": 1, "make": 3}
            self.assertEqual(depth([A, command]), told.get(command[0], 2))

    def test_one_more_around_each_command(self):
        for (script, _), (deeper, _) in zip(around(("group", [A], [])), around(("group", [("group", [A], [])], []))):
            self.assertEqual(depth(script) + 1, depth(deeper))
        self.assertEqual(depth([("and", ("and", ("and", A, B), C), D)]), 4)
        self.assertEqual(depth([("make", "f", ("group", [A], []))]), 3)
        self.assertEqual(depth([("not", ("pipe", [A, ("group", [B], [])]))]), 4)

    def test_commands_in_words_are_within(self):
        self.assertEqual(depth([do(in_word(A))]), 2)
        self.assertEqual(depth([do("a", sets=[("x", in_word(("group", [A], [])))])]), 3)
        self.assertEqual(depth([do(turns=[(1, ">", in_word(A))])]), 2)
        self.assertEqual(depth([do("a", turns=[here(run(do(in_word(A))), ("plain", "\n"))])]), 3)
        self.assertEqual(depth([("each", "x", [in_word(do(in_word(A)))], [B], [])]), 3)
        self.assertEqual(depth([("case", in_word(A), [([in_word(do(in_word(A)))], [])], [])]), 3)
        self.assertEqual(depth([A, ("group", [A], [(1, ">", in_word(do(in_word(A))))])]), 3)

    def test_words(self):
        self.assertEqual(depth(bare("a")), 1)
        self.assertEqual(depth([run()]), 1)
        self.assertEqual(depth([("wide", [name("x", "lack", False, [])])]), 1)
        self.assertEqual(depth([run(A)]), 2)
        self.assertEqual(depth(in_word(A)), 2)
        self.assertEqual(depth([run(A), run(("group", [A], [])), run()]), 3)
        self.assertEqual(depth(in_word(do(in_word(A)))), 3)

    def test_as_deep_as_callers_may_go_and_somewhat_beyond(self):
        for times in (11, 20):
            self.assertEqual(depth(deepened([A], times)), times + 1)
        chain = A
        for _ in range(60):
            chain = ("and", chain, B)
        self.assertEqual(depth(tree=[chain]), 61)

    def test_errors(self):
        for tree in WRONG_SCRIPTS + WRONG_WORDS + [[A, ("bare", "a")], [("bare", "a"), A]]:
            with self.assertRaises(InvalidTree) as caught:
                depth(tree)
            check_held(self, caught.exception.value, tree)


def check_held(case, value, tree):
    """The value of an error is equal to what was passed, and new."""
    case.assertEqual(value, tree)
    case.assertEqual(set(lists_in(value)) & set(lists_in(tree)), set())
    case.assertEqual(len(set(lists_in(value))), len(lists_in(value)))


class CountsTest(unittest.TestCase):
    def test_commands_in(self):
        self.assertEqual(commands_in([]), 0)
        self.assertEqual(commands_in([A, B, A]), 3)
        self.assertEqual(commands_in([("pipe", [A, B]), ("not", A)]), 5)
        self.assertEqual(commands_in([("if", [([A], [B, C]), ([A], [D])], [("and", A, B)], [])]), 9)
        self.assertEqual(commands_in([("make", "f", ("case", bare("a"), [([bare("b")], [A, B])], []))]), 4)
        self.assertEqual(commands_in([do("a", [run(A, do([run(B), run(C)]))])]), 5)
        self.assertEqual(commands_in([do("a", turns=[here(run(A, B), ("plain", "\n"))])]), 3)
        for (script, _), (more, _) in zip(around(A), around(("group", [A, B], []))):
            self.assertEqual(commands_in(more), commands_in(script) + 2)

    def test_a_thousand_commands_of_many_signs(self):
        long = do("a" * 60, [("wide", [("plain", "b" * 60)])])
        self.assertEqual(commands_in(script=[("group", [long] * 9, [])] * 100), 1000)

    def test_calls(self):
        self.assertEqual(calls([]), [])
        self.assertEqual(calls([do("b"), do("a"), do("b"), do("a", "c")]), ["a", "b"])
        self.assertEqual(calls([do("B"), do("a"), do("."), do("a1")]), [".", "B", "a", "a1"])
        self.assertEqual(calls([do([("held", "a b")]), do([("held", "")])]), ["", "a b"])
        self.assertEqual(calls([do([("bare", "a"), ("held", "")]), do([("mark", "a")]), do([name("x")])]), [])
        self.assertEqual(calls([do([("wide", [("plain", "a")])]), do([("held", "a"), ("held", "b")])]), [])
        self.assertEqual(calls([do(sets=[("x", "y")]), do(turns=[(1, ">", bare("f"))])]), [])
        self.assertEqual(calls([do("if", sets=[("x", "y")]), do("a", "z")]), ["a", "if"])
        self.assertEqual(calls([("make", "f", ("group", [do("echo")], []))]), ["echo"])
        self.assertEqual(calls([do([run(do("b"))], in_word(do("a")))]), ["a", "b"])
        for script, _ in around(do("found")):
            self.assertIn("found", calls(script))

    def test_calls_and_words_are_new_each_time(self):
        script = [do("a", [("wide", [run(B)])], sets=[("x", [])])]
        ahead = copy.deepcopy(script)
        calls(script=script).append("z")
        self.assertEqual(calls(script), ["a", "b"])
        words = words_of(script=script)
        words.append(1)
        words[0].append(("held", "z"))
        words[2][0][1][0][1][0][2].append(bare("z"))
        words[2].append(3)
        self.assertEqual(script, ahead)
        self.assertEqual(words_of(script), [[], bare("a"), [("wide", [run(B)])], bare("b")])

    def test_errors(self):
        for tree in WRONG_SCRIPTS:
            for asked in (commands_in, calls, words_of):
                ahead = copy.deepcopy(tree)
                with self.assertRaises(InvalidTree) as caught:
                    asked(tree)
                check_held(self, caught.exception.value, tree)
                self.assertEqual(tree, ahead)

    def test_the_value_of_an_error_shares_nothing_within_itself(self):
        word = in_word(A)
        with self.assertRaises(InvalidTree) as caught:
            words_of([do(word, word, sets=[("x", word)]), A, A, WRONG])
        check_held(self, caught.exception.value, [do(word, word, sets=[("x", word)]), A, A, WRONG])


class WordsOfTest(unittest.TestCase):
    def check(self, script, *told):
        ahead = copy.deepcopy(script)
        words = words_of(script)
        self.assertEqual(words, [bare(word) if isinstance(word, str) else word for word in told])
        self.assertEqual(script, ahead)
        self.assertEqual(len(set(lists_in(words))), len(lists_in(words)))
        self.assertEqual(set(lists_in(words)) & set(lists_in(script)), set())

    def test_each_kind_of_command(self):
        turn, behind = (1, ">", bare("t")), (1, ">&", bare("2"))
        self.check([])
        self.check([do("a", "b", sets=[("x", "1"), ("y", [])], turns=[turn, behind])], "1", [], "a", "b", "t", "2")
        self.check([("make", "f", ("group", [A, B], [turn]))], "a", "b", "t")
        self.check([("pipe", [A, B, C])], "a", "b", "c")
        self.check([("not", A), ("and", B, C), ("or", ("and", A, B), C)], "a", "b", "c", "a", "b", "c")
        self.check([("apart", [A], [behind])], "a", "2")
        self.check([("if", [([A], [B]), ([C], [D])], [do("e")], [turn])], "a", "b", "c", "d", "e", "t")
        self.check([("while", [A], [B], [turn]), ("until", [C], [D], [])], "a", "b", "t", "c", "d")
        self.check([("each", "x", [bare("a"), bare("b")], [C], [turn])], "a", "b", "c", "t")
        self.check([("each", "x", None, [C], []), ("each", "x", [], [D], [])], "c", "d")
        arms = [([bare("a"), bare("b")], [C]), ([bare("d")], [])]
        self.check([("case", bare("w"), arms, [turn])], "w", "a", "b", "c", "d", "t")

    def test_words_within_words_stand_behind_them(self):
        inner = [("held", "i"), name("y", "cut", "##", bare("c"))]
        word = [("wide", [name("x", "lack", True, inner), run(do("a", sets=[("z", [])]))]), name("v", "set", False, [])]
        self.check([do(word, "b")], word, inner, "c", [], "a", [], "b")
        deep = [run(do([run(A), run(B)], "c"))]
        self.check([do(deep, "d")], deep, [run(A), run(B)], "a", "b", "c", "d")
        self.check([do([name("x", "size"), name("y")])], [name("x", "size"), name("y")])

    def test_the_example_of_an_empty_word_of_a_deed(self):
        self.check([do([name("x", "must", True, [])])], [name("x", "must", True, [])], [])

    def test_here_texts_stand_behind_the_line(self):
        one, other = here(name("x", "lack", False, bare("l")), ("plain", "\n")), held_here("h\n")
        self.check([do("a", turns=[one, (1, ">", bare("f"))]), B], "a", "f", one[2], "l", "b")
        self.check([do("a", turns=[other, one])], "a", other[2], one[2], "l")
        self.check([("pipe", [do("a", turns=[one]), do("b", turns=[other]), C])], "a", "b", "c", one[2], "l", other[2])
        self.check([("pipe", [do("a", turns=[one]), ("group", [B], [other]), C])], "a", one[2], "l", "b", "c", other[2])
        self.check([("and", ("group", [A], [one]), do("b", turns=[other]))], "a", "b", one[2], "l", other[2])
        self.check([("or", do("a", turns=[other]), ("make", "f", ("group", [B], [])))], "a", other[2], "b")
        self.check([("not", do("a", turns=[other])), B], "a", other[2], "b")
        self.check([("if", [([do("a", turns=[other])], [B])], None, [other]), C], "a", other[2], "b", other[2], "c")
        self.check([do([run(do("a", turns=[other]))], "b", turns=[one])],
                   [run(do("a", turns=[other]))], "a", other[2], "b", one[2], "l")

    def test_here_texts_within_here_texts(self):
        inner = here(("plain", "i\n"))
        outer = here(run(do("a", turns=[inner])), ("plain", "\n"))
        self.check([do("b", turns=[outer, (1, ">", bare("f"))])], "b", "f", outer[2], "a", inner[2])

    def test_words_stand_as_the_text_tells(self):
        """Each word of an `around` script is found in the text, behind the one ahead."""
        for script, _ in around(do("found")):
            text, at = show_script(script), 0
            for word in words_of(script):
                if word != [] and word[0][0] == "bare":
                    at = text.index(word[0][1], at) + 1
