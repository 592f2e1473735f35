"""`show_script`."""

import copy
import unittest

from quotedback.errors import InvalidTree
from quotedback.texts import show_script
from tests.building import A, B, C, D, WRONG, around, bare, do, held_here, here, lists_in, name, run

TO_F = (1, ">", bare("f"))
ERR_TO_G = (2, ">>", bare("g"))
PLAIN_HERE = here(("plain", "hi\n"))
HELD_HERE = held_here("ho\n")


class ShowScriptTest(unittest.TestCase):
    def check(self, script, *lines):
        ahead = copy.deepcopy(script)
        self.assertEqual(show_script(script), "\n".join(lines))
        self.assertEqual(script, ahead)

    def test_dos(self):
        self.check([], "")
        self.check([A], "a")
        self.check([A, B, do("c", "d")], "a", "b", "c d")
        self.check([do("a", sets=[("x", "1"), ("y", [])])], "x=1 y= a")
        self.check([do(sets=[("x", []), ("if", [("held", "")])])], "x= if=''")
        self.check([do(turns=[TO_F])], ">f")
        self.check([do("a", "b", sets=[("x", [])], turns=[TO_F, ERR_TO_G])], "x= a b >f 2>>g")
        self.check([do("if", sets=[("x", "1")])], "x=1 if")
        self.check([do("2", turns=[TO_F])], "2 >f")

    def test_numbers_of_turns(self):
        for mark, usual, word in (("<", 0, "f"), (">", 1, "f"), (">>", 1, "f"), (">&", 1, "2"), (">&", 1, "-")):
            for number in (0, 1, 2):
                shown = "" if number == usual else str(number)
                self.check([do("a", turns=[(number, mark, bare(word))])], "a " + shown + mark + word)
        for number, shown in ((0, ""), (1, "1"), (2, "2")):
            self.check([do("a", turns=[(number, "<<", [("wide", [])])])], "a " + shown + "<<E", "E", "")
            self.check([do("a", turns=[(number, "<<", [("held", "")])])], "a " + shown + "<<'E'", "E", "")
        self.check([do("a", turns=[(1, ">&", bare("1")), (0, "<", [name("x"), ("bare", "y")])])], "a >&1 <${x}y")

    def test_pipes_and_lists(self):
        self.check([("pipe", [A, B, C]), ("not", A), ("not", ("pipe", [A, B]))], "a | b | c", "! a", "! a | b")
        self.check([("and", A, B), ("or", A, B)], "a && b", "a || b")
        self.check([("or", ("and", ("or", A, B), C), ("pipe", [C, D]))], "a || b && c || c | d")
        self.check([("and", ("not", A), ("not", ("pipe", [B, C])))], "! a && ! b | c")

    def test_groups_and_aparts(self):
        self.check([("group", [A, B], [])], "{", "a", "b", "}")
        self.check([("apart", [A], [TO_F, ERR_TO_G])], "(", "a", ") >f 2>>g")
        self.check([("group", [("apart", [A], [])], [TO_F])], "{", "(", "a", ")", "} >f")

    def test_ifs(self):
        self.check([("if", [([A], [B])], None, [])], "if", "a", "then", "b", "fi")
        self.check([("if", [([A, B], [C]), ([A], [B]), ([C], [D])], [A, D], [TO_F])],
                   "if", "a", "b", "then", "c", "elif", "a", "then", "b", "elif", "c", "then", "d", "else", "a", "d",
                   "fi >f")

    def test_loops(self):
        self.check([("while", [A], [B, C], [])], "while", "a", "do", "b", "c", "done")
        self.check([("until", [A, B], [C], [TO_F])], "until", "a", "b", "do", "c", "done >f")
        self.check([("each", "x", None, [A], [])], "for x", "do", "a", "done")
        self.check([("each", "x", [], [A], [])], "for x in", "do", "a", "done")
        self.check([("each", "in", [bare("a"), [name("x")], [("held", "b\nc")]], [A, B], [(0, "<", bare("f"))])],
                   "for in in a $x 'b", "c'", "do", "a", "b", "done <f")

    def test_cases(self):
        self.check([("case", bare("a"), [], [])], "case a in", "esac")
        self.check([("case", [name("x")], [([bare("*")], [])], [TO_F])], "case $x in", "(*)", ";;", "esac >f")
        arms = [([bare("a"), [("held", "b")], bare("esac")], [A, B]), ([bare("c")], []), ([bare("d")], [C])]
        self.check([("case", bare("in"), arms, [])],
                   "case in in", "(a | 'b' | esac)", "a", "b", ";;", "(c)", ";;", "(d)", "c", ";;", "esac")

    def test_makes(self):
        self.check([("make", "f", ("group", [A], [TO_F]))], "f()", "{", "a", "} >f")
        self.check([("make", "f", ("each", "x", None, [A], []))], "f()", "for x", "do", "a", "done")
        self.check([("make", "_1", ("case", bare("a"), [], [])), B], "_1()", "case a in", "esac", "b")

    def test_what_goes_on_behind_several_lines(self):
        group, loop = ("group", [A], []), ("while", [A], [B], [])
        made = ("make", "f", ("apart", [A], []))
        self.check([("pipe", [group, loop, C])], "{", "a", "} | while", "a", "do", "b", "done | c")
        self.check([("pipe", [A, made, made])], "a | f()", "(", "a", ") | f()", "(", "a", ")")
        self.check([("not", group)], "! {", "a", "}")
        self.check([("not", ("pipe", [made, B]))], "! f()", "(", "a", ") | b")
        self.check([("and", group, A)], "{", "a", "} && a")
        self.check([("or", ("and", A, group), ("group", [B], [TO_F])), C], "a && {", "a", "} || {", "b", "} >f", "c")

    def test_here_texts_of_both_kinds(self):
        self.check([do("a", turns=[PLAIN_HERE])], "a <<E", "hi", "E", "")
        self.check([do("a", turns=[HELD_HERE])], "a <<'E'", "ho", "E", "")
        self.check([do("a", turns=[PLAIN_HERE]), B], "a <<E", "hi", "E", "b")
        self.check([do(turns=[here(), held_here("")]), B], "<<E <<'E'", "E", "E", "b")
        self.check([do("a", turns=[held_here("it's \"$x\" \\ `\n\n")])], "a <<'E'", "it's \"$x\" \\ `", "", "E", "")
        self.check([do("a", turns=[here(("plain", "it's \"$x\" \\ `\n\n"))])],
                   "a <<E", "it's \"\\$x\" \\\\ \\`", "", "E", "")

    def test_pieces_in_here_texts(self):
        pieces = [name("x"), ("plain", "y "), name("12"), ("sum", ("number", 1)), name("z"), ("plain", "\n")]
        self.check([do("a", turns=[here(*pieces)])], "a <<E", "${x}y ${12}$((1))$z", "E", "")
        deed = name("x", "lack", False, [("wide", [("plain", '"')]), ("held", '"')])
        self.check([do("a", turns=[here(("plain", '"'), deed, ("plain", '"\n'))])],
                   "a <<E", "\"${x-\"\\\"\"'\"'}\"", "E", "")

    def test_end_words(self):
        self.check([do("a", turns=[held_here("E\n")])], "a <<'EE'", "E", "EE", "")
        self.check([do("a", turns=[held_here("EE\nEEEE\nE\n")])], "a <<'EEE'", "EE", "EEEE", "E", "EEE", "")
        self.check([do("a", turns=[held_here("EE\n E\nE \nxE\n")])], "a <<'E'", "EE", " E", "E ", "xE", "E", "")
        self.check([do("a", turns=[here(("plain", "a\nE\nb\n"))])], "a <<EE", "a", "E", "b", "EE", "")
        self.check([do("a", turns=[here(name("x"), ("plain", "\nE\n"))])], "a <<EE", "$x", "E", "EE", "")
        self.check([do("a", turns=[here(("plain", "E"), name("x"), ("plain", "\n"))])], "a <<E", "E$x", "E", "")
        self.check([do("a", turns=[here(("plain", "x\nE"), name("x"), ("plain", "E\n"))])],
                   "a <<E", "x", "E${x}E", "E", "")
        self.check([do("a", turns=[held_here("E\n"), held_here("x\n"), here(("plain", "E\nEE\n"))])],
                   "a <<'EE' <<'E' <<EEE", "E", "EE", "x", "E", "E", "EE", "EEE", "")

    def test_lines_of_runs_in_here_texts_count_for_end_words(self):
        inner = run(do("a", turns=[held_here("i\n")]))
        self.check([do("b", turns=[here(inner, ("plain", "\n"))])],
                   "b <<EE", "$(a <<'E'", "i", "E", ")", "EE", "")
        middle = run(do("c", turns=[here(inner, ("plain", "\n"))]))
        self.check([do("b", turns=[here(middle, ("plain", "x\n"))]), D],
                   "b <<EEE", "$(c <<EE", "$(a <<'E'", "i", "E", ")", "EE", ")x", "EEE", "d")
        self.check([do("b", turns=[here(run(do("E"), do("a", [("held", "\nEE\n")])), ("plain", "\n"))])],
                   "b <<E", "$(E", "a '", "EE", "')", "E", "")

    def test_several_here_texts_on_one_line(self):
        self.check([do("a", "b", turns=[PLAIN_HERE, TO_F, HELD_HERE, (2, "<<", [("held", "hu\n")])])],
                   "a b <<E >f <<'E' 2<<'E'", "hi", "E", "ho", "E", "hu", "E", "")
        self.check([("pipe", [do("a", turns=[PLAIN_HERE]), do("b", turns=[HELD_HERE]), C])],
                   "a <<E | b <<'E' | c", "hi", "E", "ho", "E", "")
        self.check([("or", ("and", do("a", turns=[HELD_HERE]), B), ("not", do("c", turns=[PLAIN_HERE]))), D],
                   "a <<'E' && b || ! c <<E", "ho", "E", "hi", "E", "d")

    def test_here_texts_and_commands_of_several_lines(self):
        self.check([("group", [A], [PLAIN_HERE])], "{", "a", "} <<E", "hi", "E", "")
        self.check([("group", [do("a", turns=[PLAIN_HERE])], [])], "{", "a <<E", "hi", "E", "}")
        self.check([("pipe", [do("a", turns=[PLAIN_HERE]), ("group", [do("b", turns=[HELD_HERE])], [HELD_HERE]), C]), D],
                   "a <<E | {", "hi", "E", "b <<'E'", "ho", "E", "} <<'E' | c", "ho", "E", "d")
        self.check([("and", ("group", [A], [PLAIN_HERE]), ("make", "f", ("group", [B], [HELD_HERE])))],
                   "{", "a", "} <<E && f()", "hi", "E", "{", "b", "} <<'E'", "ho", "E", "")
        self.check([("if", [([do("a", turns=[HELD_HERE])], [B])], None, [PLAIN_HERE]), C],
                   "if", "a <<'E'", "ho", "E", "then", "b", "fi <<E", "hi", "E", "c")
        self.check([("case", bare("a"), [([bare("b")], [do("a", turns=[HELD_HERE])])], [PLAIN_HERE])],
                   "case a in", "(b)", "a <<'E'", "ho", "E", ";;", "esac <<E", "hi", "E", "")

    def test_newlines_in_words_do_not_bring_here_texts(self):
        word = [("held", "x\ny")]
        self.check([do("a", turns=[PLAIN_HERE, (1, ">", word)]), B], "a <<E >'x", "y'", "hi", "E", "b")
        self.check([("pipe", [do("a", turns=[PLAIN_HERE]), do("b", word)])], "a <<E | b 'x", "y'", "hi", "E", "")

    def test_here_texts_of_runs_stand_within_their_brackets(self):
        word = [run(do("b", turns=[HELD_HERE]), C)]
        self.check([do("a", turns=[PLAIN_HERE, (1, ">", word)]), D],
                   "a <<E >$(b <<'E'", "ho", "E", "c)", "hi", "E", "d")
        last = [("wide", [run(do("b", turns=[HELD_HERE]))])]
        self.check([do("a", last, turns=[PLAIN_HERE])], "a \"$(b <<'E'", "ho", "E", ")\" <<E", "hi", "E", "")
        self.check([do("a", last)], "a \"$(b <<'E'", "ho", "E", ")\"")
        self.check([("each", "x", [last], [A], [])], "for x in \"$(b <<'E'", "ho", "E", ")\"", "do", "a", "done")

    def test_twelve_deep_with_words_six_deep_and_somewhat_beyond(self):
        script, text = [A], "a"
        for _ in range(13):
            word = [run(*script)]
            text = "$(" + text + ")"
            for _ in range(3):
                word = [name("x", "lack", False, [("wide", [word[0]])])]
                text = '${x-"' + text + '"}'
            script = [do("b", turns=[(1, ">", word)])]
            text = "b >" + text
        self.assertEqual(show_script(script), text)

    def test_by_name_and_as_a_new_text(self):
        self.assertEqual(show_script(script=[A, B]), "a\nb")

    def test_errors(self):
        wrong = [script for script, _ in around(WRONG)] + [[("odd", [1, {"a": [2]}])], [do("if")], [("bare", "a")]]
        wrong.append([A, A, do("a", turns=[(0, "<<", [("held", "a")])])])
        for script in wrong:
            ahead = copy.deepcopy(script)
            with self.assertRaises(InvalidTree) as caught:
                show_script(script)
            value = caught.exception.value
            self.assertEqual(value, script)
            self.assertEqual(set(lists_in(value)) & set(lists_in(script)), set())
            self.assertEqual(len(set(lists_in(value))), len(lists_in(value)))
            self.assertEqual(script, ahead)
