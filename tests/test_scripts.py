"""[6], [7]: which scripts there are, and where the first wrong command stands."""

import copy
import unittest

from quotedback.trees import first_wrong, is_script
from tests.building import A, B, C, WRONG, around, bare, do, every_command, held_here, here, in_word, name, run

KEY_WORDS = "if then elif else fi while until do done for in case esac { } !".split()
DEEDS = ": true false echo read set shift unset cd pwd test break continue return exit".split()
TOOLS = "cat keep drop first last order once count number swap part tee make remove move copy list".split()


def right_commands():
    group = ("group", [A], [])
    told = list(every_command().values())
    told += [("make", "f", told[k]) for k in range(len(told)) if told[k][0] in ("group", "apart", "if", "while")]
    told += [("make", "f", command) for command in told if command[0] in ("until", "each", "case")]
    told += [("make", title, group) for title in ("f", "_", "If", "echo2", "orders", "A1", "in_", "x" * 40)]
    told += [("pipe", [command, A]) for command in every_command().values() if command[0] not in PARTED]
    told += [("pipe", [A, B, C] * 5)]
    told += [("not", command) for command in every_command().values() if command[0] not in PARTED[1:]]
    told += [(kind, command, A) for kind in ("and", "or") for command in every_command().values()]
    told += [
        (kind, A, command) for kind in ("and", "or") for command in every_command().values()
        if command[0] not in ("and", "or")
    ]
    told += [
        do(sets=[("x", [])]), do(sets=[("x", []), ("if", bare("1")), ("x", [])]), do(turns=[(1, ">", bare("f"))]),
        do("if", sets=[("x", [])]), do("a", "if", "x=1"), do("=a"), do("1x=2"), do("a-b=c"), do("iff"), do("!a"),
        do([("held", "if")]), do([("wide", [("plain", "if")])]), do([("mark", "!")]), do([("bare", "i"), ("held", "f")]),
        do([("held", "x"), ("bare", "=1")]), do([("bare", "x"), ("held", "=1")]), do([name("x"), ("bare", "x=1")]),
        do([("bare", "if"), ("held", "")]), do([name("x")]),
        ("if", [([A], [B]), ([B, A], [C])], [A], []), ("if", [([A], [B])], None, []),
        ("each", "if", None, [A], []), ("each", "x", [], [A], []), ("each", "x", [bare("do")], [A], []),
        ("case", bare("esac"), [], []), ("case", bare("in"), [([bare("a"), bare("esac")], [])], []),
        ("case", bare("a"), [([[("held", "esac")]], []), ([bare("if")], [A, B])], []),
        ("case", bare("a"), [([[("bare", "esac"), ("held", "")]], [])], []),
    ]
    return told


PARTED = ("pipe", "not", "and", "or")


def wrong_commands():
    group = ("group", [A], [])
    each = every_command()
    told = [
        ("odd",), ("odd", [WRONG]), ("", [A]), ("bare", "a"), ("plain", "a"), ("sum", ("number", 1)), WRONG,
        do("a", []), do([("bare", "")]), do("a", [("held", "'")]), do("a", [("plain", "a")]),
        do("a", sets=[("1", [])]), do("a", sets=[("", [])]), do(sets=[("x", []), ("a b", [])]), do(sets=[("@", [])]),
        do(sets=[("x", [("bare", " ")])]), do("x="), do("x=1"), do("_A9=="), do("x=1", sets=[("y", [])]),
        do([("bare", "x="), ("held", "1")]), do([("bare", "x=a"), name("y")]),
        ("pipe", []), ("pipe", [A]), ("not", each["not"]), ("not", each["and"]), ("not", each["or"]),
        ("group", [], []), ("apart", [], []),
        ("if", [], None, []), ("if", [], [A], []), ("if", [([], [A])], None, []), ("if", [([A], [])], None, []),
        ("if", [([A], [B])], [], []), ("if", [([A], [B]), ([A], [])], None, []),
        ("while", [], [A], []), ("while", [A], [], []), ("until", [], [A], []), ("until", [A], [], []),
        ("each", "1", None, [A], []), ("each", "", None, [A], []), ("each", "@", None, [A], []),
        ("each", "x", None, [], []), ("each", "x", [[]], [A], []), ("each", "x", [bare("a"), bare("{")], [A], []),
        ("case", [], [], []), ("case", bare("("), [], []), ("case", bare("a"), [([], [A])], []),
        ("case", bare("a"), [([bare("b")], []), ([], [])], []), ("case", bare("a"), [([[]], [])], []),
        ("case", bare("a"), [([bare("b"), []], [])], []), ("case", bare("a"), [([bare("esac")], [A])], []),
        ("case", bare("a"), [([bare("b")], []), ([bare("esac"), bare("b")], [])], []),
    ]
    told += [do(word) for word in KEY_WORDS] + [do(word, "a") for word in KEY_WORDS]
    told += [("make", title, group) for title in ["", "1", "a-b", "@", "f "] + KEY_WORDS + DEEDS + TOOLS]
    told += [("make", "f", each[kind]) for kind in ("do", "make", "pipe", "not", "and", "or")]
    told += [("pipe", [A, each[kind]]) for kind in PARTED] + [("pipe", [each[kind], A, B]) for kind in PARTED]
    told += [(kind, A, each[other]) for kind in ("and", "or") for other in ("and", "or")]
    return told


RIGHT_TURNS = [
    (number, mark, word) for number in (0, 1, 2) for mark, word in (
        ("<", bare("f")), (">", bare("-")), (">>", [name("x"), ("held", "")]), (">&", bare("0")), (">&", bare("1")),
        (">&", bare("2")), (">&", bare("-")), ("<<", [("held", "")]), ("<<", [("held", "\n")]),
        ("<<", [("held", "it's\n'\n")]), ("<<", [("wide", [])]), ("<<", [("wide", [("plain", "\n")])]),
        ("<<", [("wide", [name("x"), ("plain", "'\"a\n")])]), (">", [run(A)]),
    )
]
WRONG_TURNS = [
    (-1, ">", bare("f")), (3, ">", bare("f")), (10 ** 18, "<", bare("f")), (1, "", bare("f")), (1, "<>", bare("f")),
    (0, "<&", bare("0")), (1, ">>>", bare("f")), (1, "|", bare("f")), (1, ">", []), (0, "<", []), (2, ">>", []),
    (1, ">", [("bare", "")]), (1, ">", [("bare", "a"), ("bare", "b")]), (1, "<", [("plain", "a")]),
    (1, ">&", []), (1, ">&", bare("3")), (1, ">&", bare("12")), (1, ">&", bare("--")), (1, ">&", [("held", "1")]),
    (1, ">&", [("bare", "1"), ("held", "")]), (1, ">&", [("mark", "1")]), (1, ">&", [name("x")]), (1, ">&", bare("")),
    (0, "<<", []), (0, "<<", bare("a")), (0, "<<", [("mark", "a")]), (0, "<<", [("plain", "\n")]),
    (0, "<<", [("held", "a")]), (0, "<<", [("held", "\na")]), (0, "<<", [("held", "a\n"), ("held", "b\n")]),
    (0, "<<", [("wide", []), ("wide", [])]), (0, "<<", [("wide", [("plain", "a")])]), (0, "<<", [("wide", [name("x")])]),
    (0, "<<", [("wide", [("plain", "a\n"), name("x")])]), (0, "<<", [("wide", [("plain", "a"), ("plain", "\n")])]),
    (0, "<<", [("wide", [("held", "\n")])]), (0, "<<", [("wide", [("bare", "a"), ("plain", "\n")])]),
    (0, "<<", [("wide", [name("1a"), ("plain", "\n")])]), (0, "<<", [run()]), (0, "<<", [name("x")]),
    (0, "<<", [("wide", [run()])]), (0, "<<", [("wide", [("plain", "a\n"), run(A)])]), (0, "<<-", [("held", "\n")]),
    (0, "<>", [("held", "")]), (0, "", [("wide", [])]), (1, ">&", [("held", "")]),
]


def turned(turns):
    """Each kind of command that has turns, with such ones."""
    return [
        ("do", [], [bare("a")], turns), ("do", [], [], turns), ("group", [A], turns), ("apart", [A], turns),
        ("if", [([A], [B])], None, turns), ("while", [A], [B], turns), ("until", [A], [B], turns),
        ("each", "x", None, [A], turns), ("case", bare("a"), [], turns),
    ]


class ScriptsTest(unittest.TestCase):
    def check(self, script, told):
        ahead = copy.deepcopy(script)
        self.assertEqual(first_wrong(script), told, script)
        self.assertIs(is_script(script), told is None, script)
        self.assertEqual(script, ahead)

    def test_the_empty_script(self):
        self.check([], None)

    def test_right_commands_at_each_place(self):
        for command in right_commands():
            for script, _ in around(command):
                self.check(script, None)

    def test_wrong_commands_at_each_place(self):
        for command in wrong_commands():
            for script, path in around(command):
                self.check(script, path)

    def test_wrong_commands_two_places_deep(self):
        for script, path in around(WRONG):
            for outer, way in around(script[-1]):
                self.check(outer, way + path[1:] if len(script) == 1 else way)

    def test_wrong_words_are_wrong_in_their_command(self):
        word = [("bare", "a"), ("bare", "b")]
        for script, path in around(do("a", [name("x", "cut", "#", word)])):
            self.check(script, path)

    def test_right_turns(self):
        for turn in RIGHT_TURNS:
            for command in turned([turn]) + turned([turn, (1, ">", bare("f")), turn]):
                self.check([command], None)

    def test_wrong_turns(self):
        for turn in WRONG_TURNS:
            for command in turned([turn]) + turned([(1, ">", bare("f")), turn]):
                self.check([A, command], [1])
                self.check([do("a", in_word(command))], [0, 2, 1, 0, 1, 0, 2, 2, 0, 1, 0])

    def test_nothing_may_stand_where_just_a_command_may(self):
        self.check([("not", WRONG)], [0, 1])
        self.check([("make", "f", ("odd", [A]))], [0, 2])
        self.check([("and", WRONG, ("or", A, B))], [0, 1])
        self.check([("and", A, WRONG)], [0, 2])
        self.check([("or", ("and", A, WRONG), B)], [0, 1, 2])
        self.check([("pipe", [A, WRONG])], [0, 1, 1])
        self.check([("pipe", [WRONG])], [0, 1, 0])

    def test_inner_ones_come_ahead_of_what_is_around(self):
        wrong_make = ("make", "if", ("group", [A, WRONG], []))
        self.check([wrong_make], [0, 2, 1, 1])
        self.check([("pipe", [("not", WRONG)])], [0, 1, 0, 1])
        self.check([("group", [("group", [], [])], [(9, ">", [])])], [0, 1, 0])
        self.check([do("if", in_word(WRONG))], [0, 2, 1, 0, 1, 0, 2, 2, 0, 1, 0])
        self.check([do("a", [run(("group", [], []), WRONG)])], [0, 2, 1, 0, 1, 0])

    def test_the_order_of_the_tuple(self):
        word, way = in_word(WRONG), [0, 1, 0, 2, 2, 0, 1, 0]
        turns = [(1, ">", bare("f")), (1, ">", word), (1, ">", word)]
        self.check([A, do(word, word, sets=[("x", word), ("y", word)], turns=turns), WRONG], [1, 1, 0, 1] + way)
        self.check([A, do(word, word, turns=turns), WRONG], [1, 2, 0] + way)
        self.check([do("a", turns=turns), WRONG], [0, 3, 1, 2] + way)
        self.check([("each", "1", [bare("a"), word], [WRONG], turns)], [0, 2, 1] + way)
        self.check([("each", "1", [bare("a")], [B, WRONG], turns)], [0, 3, 1])
        self.check([("each", "1", None, [A], turns)], [0, 4, 1, 2] + way)
        self.check([("case", word, [([word], [WRONG])], turns)], [0, 1] + way)
        self.check([("case", bare("a"), [([bare("a")], [A, WRONG]), ([word], [])], turns)], [0, 2, 0, 1, 1])
        self.check([("case", bare("a"), [([bare("a"), word], [WRONG])], turns)], [0, 2, 0, 0, 1] + way)
        self.check([("case", bare("a"), [([bare("a")], [])], turns)], [0, 3, 1, 2] + way)
        self.check([("if", [([A], [WRONG]), ([WRONG], [A])], [WRONG], turns)], [0, 1, 0, 1, 0])
        self.check([("if", [([A], [B]), ([WRONG], [WRONG])], [WRONG], turns)], [0, 1, 1, 0, 0])
        self.check([("if", [([A], [B])], [A, WRONG], turns)], [0, 2, 1])
        self.check([("if", [([A], [])], [A], turns)], [0, 3, 1, 2] + way)
        self.check([("while", [A, WRONG], [WRONG], turns)], [0, 1, 1])
        self.check([("until", [A], [WRONG], turns)], [0, 2, 0])
        self.check([("and", A, ("group", [B, WRONG], [])), WRONG], [0, 2, 1, 1])
        self.check([("group", [A, WRONG, WRONG], turns)], [0, 1, 1])

    def test_the_order_of_pieces(self):
        first = name("x", "set", True, [("held", ""), run(A, WRONG)])
        self.check([do([("held", ""), ("wide", [first, run(WRONG)]), run(WRONG)])], [0, 2, 0, 1, 1, 0, 2, 2, 1, 1, 1])
        self.check([do([("wide", [("sum", ("number", 1)), run(A, B, WRONG)]), run(WRONG)])], [0, 2, 0, 0, 1, 1, 1, 2])

    def test_nothing_is_looked_at_within_what_is_unknown(self):
        for odd in (("odd", [WRONG]), ("odd", WRONG, [("run", [WRONG])], {"a": [WRONG]}), ("odd",)):
            self.check([A, odd], [1])
            self.check([do("a", [odd])], [0])
            self.check([do("a", [("wide", [odd])])], [0])
            self.check([do("a", [("name", "x", odd)])], [0])
            self.check([do("a", [("sum", odd)])], [0])
            self.check([do("a", [odd, run(WRONG)])], [0, 2, 1, 1, 1, 0])
            self.check([do("a", turns=[(0, "<<", [odd])])], [0])

    def test_wrong_things_of_a_known_kind_are_looked_within(self):
        self.check([do("a", [("wide", [("wide", [run(WRONG)])])])], [0, 2, 1, 0, 1, 0, 1, 0, 1, 0])
        self.check([do("a", [name("1a", "lack", False, [run(WRONG)])])], [0, 2, 1, 0, 2, 2, 0, 1, 0])
        self.check([do("a", turns=[(7, "<>", [run(WRONG)])])], [0, 3, 0, 2, 0, 1, 0])
        self.check([do("a", turns=[(1, ">&", [run(WRONG)])])], [0, 3, 0, 2, 0, 1, 0])
        self.check([("make", "if", ("group", [WRONG], []))], [0, 2, 1, 0])

    def test_here_texts(self):
        wrong = here(name("x", "lack", False, [run(WRONG)]), ("plain", "\n"))
        self.check([do("a", turns=[held_here("a\n"), wrong])], [0, 3, 1, 2, 0, 1, 0, 2, 2, 0, 1, 0])
        self.check([do("a", turns=[held_here("a\n"), here(run(A), ("plain", "\n"))])], None)

    def test_what_is_returned_is_new(self):
        script = [A, WRONG]
        first_wrong(script).append(5)
        self.assertEqual(first_wrong(script=script), [1])
        self.assertIs(is_script(tree=script), False)
