"""The functions of checks.py that tell of words."""

import copy
import random
import unittest

from quotedback.checks import can_meet_paths, field_count, is_single, quoted_least, same_words, splitting
from quotedback.errors import InvalidTree, ShellError
from quotedback.expansions import fields
from quotedback.readings import read_word
from quotedback.texts import show_word
from tests.building import WRONG, lists_in, run

COUNTS = [
    ("a", 1, 1), ("'a b'", 1, 1), ("''", 1, 1), ('""', 1, 1), ("\\ ", 1, 1), ("a''\\b\"c\"", 1, 1), ("*", 1, 1),
    ("$x", 0, None), ('"$x"', 1, 1), ("a$x", 1, None), ("${x}a", 1, None), ("''$x", 1, None), ("$x$x", 0, None), ("a$x-", 1, None),
    ("$1", 0, None), ('"$1$2$3"', 1, 1), ("$0", 0, None), ('"$0"', 1, 1), ("$@", 0, None), ("$*", 0, None), ('"$@"', 0, None),
    ('"$*"', 1, 1), ('"a$@"', 1, None), ('"$@$x"', 1, None), ("''$@", 1, None), ("a$*", 1, None), ('"$@$@"', 0, None),
    ("$#", 1, None), ('"$#"', 1, 1), ("$?", 1, 3), ('"$?"', 1, 1), ("a$?", 1, 3), ("$?a", 1, 4), ("$?$?", 1, 6), ("${#?}", 1, 1),
    ("a${#?}", 1, 1), ("${#?}a", 1, 2), ("${#?}''", 1, 2), ("${#x}", 1, None), ('"${#x}"', 1, 1), ("${#@}", 1, None), ("${#1}", 1, None),
    ("${#0}", 1, None), ("$((7))", 1, 1), ("$((12))", 1, 2), ("$((12))a", 1, 3), ("a$((12))", 1, 2), ("$((2 - 14))", 1, 3),
    ("$((11))$?", 1, 5), ("'a'$((1))b$((2))", 1, 2), ("$((x))", 1, None), ('"$((x))"', 1, 1), ("$((1 / 0))", 0, 0), ('"$((1 / 0))"', 0, 0),
    ("$((x / 0))", 1, None), ("$((" + "9" * 41 + "))", 0, 0), ("$((1 ? 2 : x))", 1, None), ("$(a)", 0, None), ('"$(a)"', 1, 1),
    ("b$(a)", 1, None), ("${x-a}", 0, None), ('"${x-a}"', 1, 1), ("${x:-a}", 0, None), ("${x+a}", 0, 1), ("${x:+a}", 0, 1),
    ("${x+a}${x-b}", 1, None), ("${x+a}\"${x-b}\"", 1, 1), ("${x?}", 0, None), ("${x:?}", 0, None), ("a${x:?}", 1, None), ('"${x?}"', 1, 1),
    ("${x?}$((1/0))", 0, 0), ("${x+$((1/0))}", 0, 0), ("${x+$((1/0))}${x?}", 0, 0), ("${x+$((1/0))}$x", 0, 0), ("${x+$((1/0))}a$x", 1, 1),
    ("${x:+$((1/0))}$x", 0, 0), ("${x:+$((1/0))}'a'${x?}", 1, 1), ("${x:+$((1/0))}${#x}", 1, 1), ("${x+''}", 0, 1), ("${x+\"$x\"}", 0, 1),
    ("${x:+\"$x\"}${x:-a}", 1, None), ("${1+${2?}}${1?}$#", 1, None), ("${1+$((1/0))}$#", 1, 1), ("${1+$((1/0))}$@", 0, 0),
    ("${1+$((1/0))}\"$@\"", 0, 0), ("${2+$((1/0))}\"$@\"", 0, 1), ("${3+$((1/0))}\"$@\"${2?}", 2, None), ("${3+$((1/0))}\"$@\"\"${2?}\"", 2, 2),
    ("${3+$((1/0))}\"${2?}$*\"", 1, 1), ("${3+$((1/0))}${3-$((12))$#}", 1, 3), ("${@?}'a'", 1, None), ("${*+a}", 0, 1), ('"${@+a}"', 0, 1),
    ('"${@?}"', 1, None), ('"${@#a}"', 0, None), ('"${*#a}"', 1, 1), ("${x#a}", 0, None), ('"${x#a}"', 1, 1), ("${x#${y?}}${y+a}", 1, None),
    ("${y+$((1/0))}${x##${y?}}", 0, 0), ("${@#a}", 0, None), ("${#x}${x?}", 1, None), ("$x${y?}", 0, None), ("${x:?}${y:?}", 0, None),
    ("${x:?}''${x}", 1, None), ("${x-${y-${z-a}}}", 0, None), ("${x+${y+${z+a}}}", 0, 1), ("${0:?}", 0, None), ("${0:+a}", 0, 1),
    ("${??}a", 1, 4), ("${?+a}", 1, 1), ("${#+a}", 1, 1), ("${#?a}", 1, None), ("${0?}a", 1, None), ("${0+a}", 1, 1),
    ("a${x:?}b", 1, None), ("${1:?}$*", 0, None), ("${2?}\"$1\"", 1, None), ("\"${x+$@}\"", 1, None), ("\"${x-$?}\"$((1))", 1, 1),
    ("$((1))\"$x\"", 1, 2), ("${x+$((12))}", 0, 2), ("${x+a}${x+$((12))}", 0, 2), ("${x-$((12))}${x+$((345))}a", 1, None),
    ("\"$(a)\"$((-1))''", 1, 3),
]

SINGLE = [
    "a", "''", "[$((7))", "[a$((7))", '"$x"', '"a$x"', "a\"$x\"b", '"$*"', '"$#"', '"$?"', "${#?}", "$((7))", "a$((7))", '"$(a)"', '"$((x))"', "'*'", "\\*", '"*"',
    "[", "[a", "[a]", "[a-a]", "[]", "[!]", "x]", "[/]", "[aa]", "[]]", "[/a]", "*/", "a//*", "*//b", "//*", "[a]b[c]", "\"$x\"[a]",
    "[\"*\"", "\"[ab]\"", "${x+a}\"${x-b}\"", "\"${x-*}\"", "${x+a}\"${x?}\"", "['a']", "[/]*/", "[/]\"$x\"",
    "\"$x\"/[a]", "[a][b]/", "[!'\n'-~]", "[!'\n'-~]*", "a[!'\n'-~]", "${0+a}", "[\"${#?}\"]", "['']a", "[\"a\"/]",
]
NOT_SINGLE = [
    "$x", "a$x", "$@", '"$@"', "$#", "$?", "$((12))", "$((7))a", "$(a)", "*", "?", "a*", "*b", "[ab]", "[a-c]", "[!a]", "a/*", "/*", "*/b", "?/a",
    "*\"$x\"", "\"$x\"*", "\"$x\"?", "\"$x\"[ab]", "[\"$x\"]", "[a\"$x\"]", "[!\"$x\"]", "[\"$(a)\"]", "[\"$#\"]", "[\"$?\"]", "[\"$((x))\"]",
    "[\"${#x}\"]", "${x+a}", "$((1/0))", "${x+$((1/0))}${x?}", "[]a]", "*$((7))", "[\"$x\"]a//]", "\"$x\"/*", "*/\"$x\"", "**",
    "[\"$*\"]", "[\"${x#a}\"]", "[/a-b]", "[$x]", "${x-*}", "${x+*}\"${x-*}\"", "[!a/]", "[\"$0\"]", "[\"$1\"]", "?[!'\n'-~]*$x", "[a\"\"b]",
    "*/$((1))", "[\"${#1}\"]",
]


def is_free(pieces):
    """Tells whether cuts, or sums with names, stand in a word, which are taken to come to anything."""
    for piece in pieces:
        if piece[0] == "sum" and "of" in repr(piece) or piece[0] == "name" and piece[2][:1] == ("cut",):
            return True
        if piece[0] == "wide" and is_free(piece[1]) or piece[0] == "name" and len(piece[2]) == 3 and is_free(piece[2][2]):
            return True
    return False


class CountTest(unittest.TestCase):
    def test_field_counts(self):
        for text, least, greatest in COUNTS:
            with self.subTest(text=text):
                self.assertEqual(field_count(read_word(text)), (least, greatest))

    def test_single_words(self):
        for text in SINGLE:
            self.assertIs(is_single(read_word(text)), True, text)
        for text in NOT_SINGLE:
            self.assertIs(is_single(word=read_word(text)), False, text)

    def test_splitting(self):
        for text, _, greatest in COUNTS:
            word = read_word(text)
            if is_free(word):
                continue
            with self.subTest(text=text):
                found = splitting(word)
                self.assertEqual(found is None, greatest is not None and greatest < 2)
                if found is not None:
                    room, answers = found
                    self.assertGreater(len(fields(word, room, answers)), 1)
                    self.assertEqual(room[4], [])
                    self.assertTrue(all(isinstance(value, str) for value in room[0].values()))
                    self.assertTrue(all(len(value) <= 4000 for value in room[1] + answers))
                    self.assertLessEqual(len(answers), 60)
                    self.assertEqual(len(lists_in(found)), len(set(lists_in(found))))

    def test_quoted_least(self):
        for text in ('"$x"', '"$#"', 'a"$#"', '"$x""$y"', "'a'\"$x\"b", "a", "''", "\"a b\"", "\"it's\"", "\"$x it's '\"", "\"$(a)\"", "\"$((x))\"",
                     "\"$?\"", "\"$((12))\"", "\"$*\"", "[a]", "\"${x-a}\"", "\"a\"\"$x\"", "\"$((7))a\"", "\"$((7))\"b", "\"${x#a}\"",
                     "\"${x+a}${x-'b'}\"c", "${x+\"$((7))\"}\"${x-b}\""):
            self.assertIs(quoted_least(read_word(text)), True, text)
        for text in ("$x", "*", '"$@"', "\"$((7))\"", "a\"$((7))\"", "\"${#?}\"", "\"$x\"\"$((7))\"", "\"${x-\"$y\"}\"", "\"${x+a}b\"",
                     "\"$x\"$((12))", "\"${0+a}\"", "\"${x#\"$y\"}\"",
                     "a\"${x+$((1/0))}$x\""):
            self.assertIs(quoted_least(word=read_word(text)), False, text)
        # The inner double quotes are needed where no outer ones stand.
        self.assertIs(quoted_least(read_word("${0+\"$x\"}")), True)
        self.assertIs(quoted_least(read_word("\"${0+\"$x\"}\"")), False)
        self.assertIs(quoted_least(read_word("${0+a\"$((7))\"}")), False)

    def test_great_words(self):
        for text in ("\"$x$y$z\"\"$@\"$x$y$z", "${x:?}${y:?}${z:?}${w:?}", "\"$(a)$(b)$(c)$(d)$(e)$(f)$(g)\"[", "[\"$x$y$z$w\"/",
                     "${x+$((1/0))}${y+$((1/0))}${z+$((1/0))}${@+$((1/0))}$((12))a"):
            word = read_word(text)
            least, greatest = field_count(word)
            self.assertTrue(greatest is None or least <= greatest)
            self.assertEqual(is_single(word), (least, greatest) == (1, 1))
            quoted_least(word)

    def test_counts_in_rooms_by_chance(self):
        values = ["", "a", " ", ":", "a:b", " a", "::", "a" * 12]
        for text, least, greatest in COUNTS:
            word = read_word(text)
            single = is_single(word)
            chance = random.Random(text)
            if is_free(word):
                continue
            for _ in range(60):
                names = {name: chance.choice(values) for name in "xyz" if chance.random() < 0.7}
                if chance.random() < 0.8:
                    names["SEP"] = chance.choice(["", " ", ":", " :", "0123456789:-"])
                arguments = [chance.choice(values) for _ in range(chance.choice([0, 1, 2, 3, 12]))]
                room = (names, arguments, chance.choice(values), chance.choice([0, 100, 255]), [])
                answers = [chance.choice(values) for _ in range(4)]
                try:
                    many = len(fields(word, room, answers))
                except ShellError:
                    continue
                self.assertLessEqual(least, many, (text, room))
                self.assertTrue(greatest is None or many <= greatest, (text, room))
                if single:
                    paths = sorted(["a", "b", "ab", "ba", "*", "[a]", "/a", "/b", "a/a", "b/a", "7", "a7"])
                    self.assertEqual(len(fields(word, room[:4] + (paths,), answers)), 1, (text, room))


class OtherTest(unittest.TestCase):
    def test_can_meet_paths(self):
        for text in ("*", "?", "[", "a[b", "$x", "$1", "$0", "$@", "$*", "${x-a}", "${x=a}", "${x?a}", "${x#a}", "${@^a}", "$(a)", "a$(a)",
                     "${x:-a}", "${#-*}", "${x+*}", "${x+$y}", "${x+$(a)}", "${#+${?-?}}", "${x+${y+[}}", "'a'$x", "${1:?}", "${?=$x}"):
            self.assertIs(can_meet_paths(read_word(text)), True, text)
        for text in ("a", "''", "'*'", "\\*", "\"*\"", "\"$x\"", "\"$@\"", "\"$(a)\"", "$#", "$?", "${#x}", "${#@}", "${x+a}", "${x+'*'}",
                     "${x+\"$y\"}", "${#-a}", "${?-$#}", "$((x))", "$((1))", "\"${x-*}\"", "\"${x+$y}\"", "${#^*}", "${?#$x}", "${#:?${?}}",
                     "${x+${#^^$(a)}}", "${#=a}", "a.b/]!~"):
            self.assertIs(can_meet_paths(word=read_word(text)), False, text)

    def test_same_words(self):
        for one, other in (("ab", "'ab'"), ("a'b'", "'a'b"), ("a", "\\a"), ("'a'b$x", "ab$x"), ("\"a$x\"", "a\"$x\""), ("\"$x$y\"", "\"$x\"\"$y\""),
                           ("''a", "a"), ("a''", "a"), ("''", '""'), ("''''", "''"), ("''\"$x\"", "\"$x\""), ("\"$x\"\"\"", "\"$x\""),
                           ("$x''''$y", "$x\"\"$y"), ("$x'a'$y", "${x}a$y"), ("$x", "${x}"), ("''$x", "\"\"$x"), ("\"$x\"$x''", "\"$x\"$x\"\""),
                           ("\"it's\"", "it\\'s"), ("\"$x a\"", "\"$x\"' a'"), ("$x$y", "$x$y")):
            self.assertIs(same_words(read_word(one), read_word(other)), True, (one, other))
            self.assertIs(same_words(one=read_word(other), other=read_word(one)), True, (other, one))
        for one, other in (("a", "b"), ("a", "ab"), ("$x", "\"$x\""), ("$x", "$y"), ("$x$y", "$y$x"), ("$x", "$x$x"), ("$x", "''$x"),
                           ("$x''", "$x"), ("''$x", "$x''"), ("$x''$x", "$x$x"), ("$x''$x$x", "$x$x''$x"), ("''$x$y", "$x''$y"),
                           ("$x\"$x\"", "\"$x\"$x"), ("\"$x$y\"", "\"$y$x\""), ("a$x", "${x}a"), ("$x\"$y\"", "\"$x\"$y"), ("$x\"$y\"", "$x$y"),
                           ("$x", "a"), ("\"$x\"", "''"), ("\"$x\"", "\"$x$x\""), ("''", "' '"), ("$x\"$y\"$x", "$x$y$x"), ("$x", "x")):
            self.assertIs(same_words(read_word(one), read_word(other)), False, (one, other))
            self.assertIs(same_words(read_word(other), read_word(one)), False, (other, one))

    def test_same_words_in_rooms_by_chance(self):
        chance = random.Random(5)
        pieces = ["a", "'a'", "''", '""', "$x", "$y", "\"$x\"", "\"$y\"", "\"a$x\"", "\"$x$y\"", "\\a", "${x}"]
        rooms = []
        for sep in (None, "", ":", " :"):
            for x in (None, "", " ", "a", " a ", "a:", ":a", "a b:c", ":"):
                for y in ("", " ", "a", " b ", "b:", ":a:", "::"):
                    names = {"y": y}
                    names.update({} if x is None else {"x": x})
                    names.update({} if sep is None else {"SEP": sep})
                    rooms.append((names, [], "", 0, []))
        seen = {True: 0, False: 0}
        for _ in range(1500):
            # Double quotes keep the names of pieces side by side apart.
            one, other = [[piece for _ in range(chance.randint(1, 3)) for piece in read_word(chance.choice(pieces))] for _ in range(2)]
            words = [[piece for at, piece in enumerate(word) if at == 0 or piece[0] != "bare" or word[at - 1][0] != "bare"]
                     for word in (one, other)]
            alike = all(fields(words[0], room, []) == fields(words[1], room, []) for room in rooms)
            self.assertEqual(same_words(words[0], words[1]), alike, (show_word(words[0]), show_word(words[1])))
            seen[alike] += 1
        self.assertGreater(min(seen.values()), 20)

    def test_wrong_words(self):
        good = [("bare", "a")]
        for word in ([], [("bare", "")], [("bare", "a"), ("bare", "b")], [("plain", "a")], [run(WRONG)], [("what", "a")]):
            for call in (field_count, is_single, splitting, quoted_least, can_meet_paths, lambda told: same_words(told, good),
                         lambda told: same_words(good, told), lambda told: same_words(told, [])):
                with self.assertRaises(InvalidTree) as caught:
                    call(word)
                self.assertEqual(caught.exception.value, word)
                self.assertIsNot(caught.exception.value, word)

    def test_nothing_passed_is_changed(self):
        word = read_word("a\"${x-\"$y\"}\"\"b$x\"")
        ahead = copy.deepcopy(word)
        for call in (field_count, is_single, splitting, quoted_least, can_meet_paths):
            call(word)
        self.assertEqual(word, ahead)
