"""The examples of the document."""

import unittest

from quotedback.checks import (
    can_meet_paths, field_count, is_single, list_comes_to, quoted_least, reads, same_lists, same_words, sets, splitting,
)
from quotedback.code import compiled, dead_left_out, fused, run_code, shorter, status_free
from quotedback.deeds import is_deed, said, tested
from quotedback.desks import Desk
from quotedback.expansions import all_fields, fields, joined, names_behind, pattern, signs
from quotedback.filters import alike, filtered, first_parted, least_row, never_writes, passing, source
from quotedback.nets import behind, by_order, held, least_room, movers, stands_still, waits_for
from quotedback.patterns import (
    common, first_apart, heads, least_text, meets, never_met, pattern_of, same, tails, unmet, within,
)
from quotedback.races import is_apart, race, touched
from quotedback.readings import is_shown, quote, quote_all, read_script, read_sum, read_word, tidied
from quotedback.runs import Walk, dry, run
from quotedback.sums import folded, names_in, worked_out
from quotedback.texts import show_script, show_sum, show_word
from quotedback.tools import tool
from quotedback.trees import calls, commands_in, depth, first_wrong, is_script, is_word, words_of
from quotedback.worlds import below, deeds_between, moved, path_of, room_of, undone, with_file, without


class ExamplesTest(unittest.TestCase):
    def test_trees(self):
        echo = ("do", [], [[("bare", "echo")], [("wide", [("name", "x", ())])]], [])
        script = [
            ("if", [([echo], [("do", [("x", [])], [], [])])], None, []),
            ("pipe", [echo, ("do", [], [[("held", "sort")]], [])]),
        ]
        told = [
            is_word([("bare", "a"), ("bare", "b")]), is_script(script), commands_in(script), depth(script),
            calls(script), len(words_of(script)), is_script([("do", [], [], [])]),
        ]
        self.assertEqual(told, [False, True, 6, 2, ["echo", "sort"], 6, False])
        self.assertIsNone(first_wrong(script))

    def test_readings(self):
        told = [
            read_word("a'b c'\"$x\""), show_word([("name", "x", ("cut", "##", [("bare", "*/")])), ("bare", "z")]),
            read_sum("1+2*x"), show_sum(("*", ("+", ("number", 1), ("of", "x")), ("minus", ("number", 2)))), quote("it's"),
            quote_all(["a", "b c", ""]),
        ]
        self.assertEqual(told, [
            [("bare", "a"), ("held", "b c"), ("wide", [("name", "x", ())])], "${x##*/}z",
            ("+", ("number", 1), ("*", ("number", 2), ("of", "x"))), "(1 + x) * -2", [("wide", [("plain", "it's")])], "a 'b c' ''",
        ])
        told = [
            tidied("if a;then b;fi"), is_shown("a | b"), tidied("cat <<X # all\nhi $x\nX\n"), read_script("x=1 y >z 2>&1"),
        ]
        turns = [(1, ">", [("bare", "z")]), (2, ">&", [("bare", "1")])]
        self.assertEqual(told, [
            "if\na\nthen\nb\nfi", True, "cat <<E\nhi $x\nE\n",
            [("do", [("x", [("bare", "1")])], [[("bare", "y")]], turns)],
        ])
        self.assertEqual(show_script(told[3]), "x=1 y >z 2>&1")

    def test_sums(self):
        told = [
            worked_out(read_sum("x * 3 - 7 / -2"), {"x": "5"}, []), worked_out(read_sum("0 && 1 / 0"), {}, []),
            worked_out(read_sum("-7 ^ 3"), {}, []), names_in(read_sum("a + b * a")), folded(read_sum("x + 2 * 3")),
            folded(read_sum("1 || x")),
        ]
        self.assertEqual(told, [18, 0, -1, ["a", "b"], ("+", ("of", "x"), ("number", 6)), ("number", 1)])

    def test_patterns(self):
        star, a_star = [("lot",)], [("one", "a"), ("lot",)]
        told = [
            meets(a_star, "abc"), heads(a_star, "ab"), tails([("any",), ("one", "c")], "abc"),
            least_text([("any",), ("lot",), ("one", "b")]), same([("lot",), ("any",)], [("any",), ("lot",)]), within(a_star, star),
            first_apart(star, a_star), common(a_star, [("lot",), ("one", "b")]),
        ]
        self.assertEqual(told, [True, [1, 2], [2], "\nb", True, True, "", "ab"])
        signs = [("[", "bare"), ("a", "bare"), ("-", "bare"), ("c", "bare"), ("]", "bare"), ("*", "firm")]
        told = [never_met([[a_star], [star], [[("any",)]]]), unmet([[a_star], [[("lot",), ("one", "b")]]]), pattern_of(signs)]
        self.assertEqual(told, [[2], "", [("of", False, [("a", "c")]), ("one", "*")]])

    def test_expansions(self):
        room = ({"x": "a  b", "e": ""}, ["1 2", "3"], "me", 0, ["ab", "ac", "d/e"])
        told = [fields(read_word(text), room, []) for text in ("$x", '"$x"', "p$x", "$e", '"$e"', "a*", "'a*'", '"$@"z')]
        self.assertEqual(told, [["a", "b"], ["a  b"], ["pa", "b"], [], [""], ["ab", "ac"], ["a*"], ["1 2", "3z"]])
        told = [
            joined(read_word("$x*"), room, []), fields(read_word("${e:-n$x}"), room, []), names_behind(read_word("${y=q}$y"), room, []),
            fields(read_word("$((2*3))${x^b}"), room, []), fields(read_word("d/?"), room, []), fields(read_word("$(ls)"), room, ["u v\n\n"]),
        ]
        self.assertEqual(told, ["a  b*", ["na", "b"], {"x": "a  b", "e": "", "y": "q"}, ["6a"], ["d/e"], ["u", "v"]])
        self.assertEqual(all_fields([read_word("$x"), read_word("$e")], room, []), ["a", "b"])
        self.assertEqual(signs(read_word("a"), room, []), [("a", "bare")])
        self.assertEqual(pattern(read_word("a*"), room, []), [("one", "a"), ("lot",)])

    def test_checks(self):
        told = [
            field_count(read_word("a$x")), field_count(read_word("$x")), field_count(read_word('"$@"')), is_single(read_word('"a$x"')),
            is_single(read_word("a*")), can_meet_paths(read_word('"*"')), quoted_least(read_word('a"$#"')),
        ]
        self.assertEqual(told, [(1, None), (0, None), (0, None), True, False, False, True])
        told = [
            reads(read_script("x=1\necho $x $y\nread y")), sets(read_script("x=1\nfor z in a\ndo\n: ${w=2}\ndone")),
            same_lists(read_script("a && b || c")[0], read_script("a || c")[0]), same_words(read_word("'a'b$x"), read_word("ab$x")),
        ]
        self.assertEqual(told, [["y"], ["w", "x", "z"], [True], True])
        self.assertEqual(list_comes_to(read_script("a")[0]), [False, True])
        self.assertIsNone(splitting(read_word("a")))

    def test_worlds(self):
        world = ({"/a": "1\n", "/d": None, "/d/e": ""}, "/d", {"x": "2"}, [], "me", 0, {})
        told = [
            path_of(world, "../a"), path_of(world, "e/./f"), room_of(world)[4], below(world, "/d"), sorted(moved(world, "/d", "/g")[0]),
            deeds_between(world, without(with_file(world, "/h", "z"), "/d")),
        ]
        self.assertEqual(told, [
            "/a", "/d/e/f", ["/a", "/d", "/d/e", "e"], ["e"], ["/a", "/g", "/g/e"], [("lost", "/d"), ("file", "/h", "z")],
        ])
        self.assertEqual(undone(world, [("lost", "/d"), ("file", "/h", "z")]), [("lost", "/h"), ("folder", "/d"), ("file", "/d/e", "")])

    def test_deeds(self):
        world = ({"/a": "1\n", "/d": None}, "/", {}, [], "me", 0, {})
        told = [
            is_deed("shift"), is_deed("cat"), tested(["-f", "a"], world), tested(["!", "-f", "d"], world), tested(["3", "-lt", "03"], world),
            tested([], world), said(["a", "", "b"]),
        ]
        self.assertEqual(told, [True, False, 0, 0, 2, 2, "a  b\n"])

    def test_tools(self):
        world = ({"/a": "b\na\na"}, "/", {}, [], "me", 0, {})
        told = [
            tool(["order"], world, "b\na\nb")[1], tool(["cat", "a", "z"], world, "")[1:4], tool(["first", "1"], world, "x\ny\n")[1:],
            tool(["keep", "a*"], world, "ab\nba\n")[1], tool(["part", "2", ":"], world, "a:b:c\nd\n")[1], tool(["last"], world, "x")[2:4],
            tool(["make", "d", "a"], world, "")[2:4],
        ]
        self.assertEqual(told, [
            "a\nb\nb\n", ("b\na\na", "z: no\n", 1), ("x\n", "", 0, "y\n"), "ab\n", "b\n\n", ("last: wrong\n", 2), ("a: no\n", 1),
        ])

    def test_filters(self):
        a, some = ("keep", [("one", "a"), ("lot",)]), ("swap", [("a", "b")])
        told = [
            filtered([a, ("first", 1)], "b\nab\na\n"), alike([a, ("first", 1)], [("first", 1), a]), first_parted([a, ("first", 1)], [("first", 1), a]),
            never_writes([some, a]), passing(a, ("drop", [("any",)])), passing(a, some), least_row([a, a, some]), source([some], ["b"]),
        ]
        self.assertEqual(told, [
            "ab\n", False, ["", "a"], True, True, False, [("keep", [("one", "a"), ("lot",)]), ("swap", [("a", "b")])], ["a"],
        ])

    def test_nets(self):
        net = (
            [("take", ["a", "b", "c", "d"]), ("fork",), ("keep", [("one", "d")]), ("zip", "-"), ("keep all",)],
            [(0, 1), (1, 2), (1, 3), (2, 3), (3, 4)], 1,
        )
        told = [
            movers(net, []), by_order(net, [0, 1, 2, 3, 4]), held(net), stands_still(net), waits_for(net), least_room(net), behind(net, [0]),
        ]
        self.assertEqual(told, [[0], [None], [None], [1, 2, 3, 4], [1, 3, 2], 2, ([["a"], [], [], [], []], [[]])])

    def test_runs(self):
        world = ({"/a": "b\na\n"}, "/", {}, ["p", "q"], "me", 0, {})
        told = [
            run(read_script("for x\ndo echo $x >>f; done\norder <a | first 1"), world, "", 50)[1],
            dry(read_script("echo hi >f\nremove a"), world, "", 9), run(read_script("x=1\n(x=2; exit 3)\necho $x $?"), world, "", 9)[3],
        ]
        self.assertEqual(told, [
            "a\n", [("lost", "/a"), ("file", "/f", "hi\n")],
            [("set", "x", "1"), ("set", "x", "2"), ("do", ["exit", "3"]), ("do", ["echo", "1", "3"]), ("say", 1, "1 3\n"), ("end", 0)],
        ])
        self.assertEqual(len(Walk(read_script("a"), world, "")), 0)

    def test_code(self):
        world, code = ({"/f": "b\na\n"}, "/", {}, [], "me", 0, {}), compiled(read_script("order <f | first 1"))
        told = [
            run_code(code, world, "", 9)[1], run_code(shorter(code), world, "", 9)[3], dead_left_out(read_script("echo a\nexit 3\necho b"))[1],
            show_script(fused(read_script("cat f | keep 'a*' | keep 'a*' | cat"))[0]), status_free(read_script("echo $?")),
        ]
        self.assertEqual(told, [
            "a\n", [("do", ["order"]), ("do", ["first", "1"]), ("say", 1, "a\n"), ("end", 0)], [[1]], "cat f | keep 'a*' | cat", False,
        ])

    def test_races(self):
        world = ({"/a": "x\n"}, "/", {}, [], "me", 0, {})
        told = [
            touched(read_script("cat a >b"), "/d"), is_apart(read_script("cat a | tee b")[0], "/"), is_apart(read_script("cat a | tee a")[0], "/"),
            race(read_script("echo y >a | cat a")[0], world, "", 9),
        ]
        self.assertEqual(told, [(["/d/a"], ["/d/b"]), True, False, ([0, 1], [1, 0])])

    def test_desks(self):
        desk = Desk(({"/a": "x\n"}, "/", {}, [], "me", 0, {}))
        told = [desk.enter("x=1"), desk.enter("echo $x >f; cat f"), desk.enter("!!"), desk.history()[2], len(desk)]
        self.assertEqual(told, [("", "", 0), ("1\n", "", 0), ("1\n", "", 0), "echo $x >f; cat f", 3])
        told = [desk.undo(), len(desk), desk.dry_line("remove a"), desk.plan("cat a"), desk.complete("ca"), desk.complete("cat /")]
        self.assertEqual(told, [None, 2, [("lost", "/a")], (["/a"], []), ["cat"], ["/a", "/f"]])
