"""The functions of expansions.py."""

import copy
import unittest

from quotedback.errors import (
    DividedByZero, InvalidRoom, InvalidTree, NoInteger, Refused, ShellError, TooGreat, Wanted,
)
from quotedback.expansions import all_fields, fields, joined, names_behind, pattern, signs
from quotedback.readings import quote_all, read_script, read_word
from tests.building import WRONG, lists_in, run

NAMES = {"x": "a b", "e": "", "s": " a ", "p": "a*"}


def room(names=None, arguments=(), title="me", status=3, paths=(), sep=None):
    told = dict(NAMES if names is None else names)
    if sep is not None:
        told["SEP"] = sep
    return (told, list(arguments), title, status, list(paths))


def marked(text, mark):
    return [(sign, mark) for sign in text]


CUT, EMPTY = ("", "cut"), ("", "firm")


class SignsTest(unittest.TestCase):
    def check(self, text, expected, place=None, answers=()):
        with self.subTest(text=text):
            self.assertEqual(signs(read_word(text), place or room(), list(answers)), expected)

    def test_plain_pieces(self):
        self.check("a*", marked("a*", "bare"))
        self.check("'a b'", marked("a b", "firm"))
        self.check("\\a\\ ", marked("a ", "firm"))
        self.check("\"a \\$\"", marked("a $", "firm"))
        self.check("''", [EMPTY])
        self.check('""', [EMPTY])
        self.check("a''\"\"", marked("a", "bare") + [EMPTY, EMPTY])

    def test_names(self):
        self.check("$x", marked("a b", "loose"))
        self.check('"$x"', marked("a b", "firm"))
        for text in ("$e", "$u", "$9"):
            self.check(text, [])
            self.check('"' + text + '"', [EMPTY])
            self.check('"' + text + text + '"', [EMPTY])
            self.check('"' + text + '-"', marked("-", "firm"))
        place = room(arguments=["1 2", ""], title="me", status=255)
        for text, value in (("$0", "me"), ("$#", "2"), ("$?", "255"), ("$1", "1 2"), ("$2", ""), ("$3", "")):
            self.check(text, marked(value, "loose"), place)
            self.check('"' + text + '-"', marked(value + "-", "firm"), place)
        ten = room(arguments=[str(at) for at in range(1, 13)])
        self.check("${10}$10${12}$#", marked("10", "loose") + marked("1", "loose") + marked("0", "bare")
                   + marked("1212", "loose"), ten)

    def test_all_arguments(self):
        place = room(arguments=["1 2", "", "3"])
        for text in ("$@", "$*"):
            self.check(text, marked("1 2", "loose") + [CUT, CUT] + marked("3", "loose"), place)
            self.check(text, [])
            self.check(text, [], room(arguments=[""]))
            self.check(text, [CUT], room(arguments=["", ""]))
        self.check('"$@"', marked("1 2", "firm") + [CUT, EMPTY, CUT] + marked("3", "firm"), place)
        self.check('"a$@b"', marked("a1 2", "firm") + [CUT, EMPTY, CUT] + marked("3b", "firm"), place)
        self.check('"$*"', marked("1 2  3", "firm"), place)
        self.check('"$*"', [EMPTY], room(arguments=[""]))
        for sep, between in (("", ""), (":-", ":"), ("\n ", "\n"), (" ", " ")):
            self.check('"$*"', marked("a" + between + "b", "firm"), room(arguments=["a", "b"], sep=sep))
        self.check("\"$*\"$*", marked("a:b", "firm") + marked("a", "loose") + [CUT] + marked("b", "loose"),
                   room(arguments=["a", "b"], sep=":"))
        self.check('"$*"', [EMPTY], room(arguments=["", ""], sep=""))

    def test_wides_of_arguments_alone(self):
        for text in ('"$@"', '"$@$@"', '"${@#a}"'):
            self.check(text, [])
        for text in ('"$*"', '"$@$e"', '"$e$@"', '"$@$*"', '""', '"$e"', '"$1"'):
            self.check(text, [EMPTY])
        self.check('"$@"', [EMPTY], room(arguments=[""]))
        self.check('"$@"""', [EMPTY])
        self.check('"${@+}"', [EMPTY], room(arguments=["1"]))
        self.check('"$@\'"', marked("'", "firm"))
        self.check('a"$@"b', marked("ab", "bare"))

    def test_sizes(self):
        place = room(arguments=["1 2", ""], title="", status=255)
        for text, value in (("${#x}", "3"), ("${#e}", "0"), ("${#u}", "0"), ("${#1}", "3"), ("${#2}", "0"), ("${#3}", "0"),
                            ("${#0}", "0"), ("${#?}", "3"), ("${##}", "1"), ("${#@}", "2"), ("${#*}", "2")):
            self.check(text, marked(value, "loose"), place)
            self.check('"' + text + '"', marked(value, "firm"), place)
        self.check("${##}${#@}", marked("212", "loose"), room(arguments=["a"] * 12))
        self.check("${#*}", marked("0", "loose"))

    def test_lack_and_other(self):
        place = room(arguments=["1", ""])
        for text, value in (("${x-w}", "a b"), ("${x:-w}", "a b"), ("${e-w}", ""), ("${1-w}", "1"), ("${2-w}", ""), ("${0-w}", "me"),
                            ("${#-w}", "2"), ("${?:-w}", "3")):
            self.check(text, marked(value, "loose"), place)
            self.check(text.replace("-w", "+"), [], place)
            self.check(text.replace("-w", "+w"), marked("w", "bare"), place)
        for text in ("${e:-w}", "${u-w}", "${u:-w}", "${2:-w}", "${3-w}", "${3:-w}"):
            self.check(text, marked("w", "bare"), place)
            self.check('"' + text + '"', marked("w", "firm"), place)
            self.check(text.replace("-", "+"), [], place)
            self.check('"' + text.replace("-", "+") + '"', [EMPTY], place)
        for sign in "@*":
            for colon in ("", ":"):
                self.check("${" + sign + colon + "-w}", marked("w", "bare"))
                self.check("${" + sign + colon + "+w}", [])
                self.check("${" + sign + colon + "-w}", [], room(arguments=[""]))
                self.check("${" + sign + colon + "+w}", marked("w", "bare"), room(arguments=[""]))
                self.check("${" + sign + colon + "-w}", marked("1", "loose") + [CUT], place)
        self.check('"${@-w}"', marked("1", "firm") + [CUT, EMPTY], place)
        self.check('"${*-w}"', marked("1 ", "firm"), place)

    def test_words_of_deeds_keep_their_marks(self):
        self.check("${u-a'b'\\c$x\"$x\"\"\"''}", marked("a", "bare") + marked("bc", "firm") + marked("a b", "loose")
                   + marked("a b", "firm") + [EMPTY, EMPTY])
        self.check("\"${u-a*'b'\\c$x$((1))${#x}\"$x\"\"\"''}\"", marked("a*bca b13a b", "firm") + [EMPTY, EMPTY])
        place = room(arguments=["1", "", "2"], sep=":")
        self.check('"${u-$@}"', marked("1", "firm") + [CUT, EMPTY, CUT] + marked("2", "firm"), place)
        self.check('"${u-$*}"', marked("1::2", "firm"), place)
        self.check('"${u-${v-$*}}$(a)"', marked("1::2z", "firm"), place, ["z"])
        self.check("${u-${v-${w-z}}}", marked("z", "bare"))
        self.check('"${u-}"', [EMPTY])
        self.check("${u-}", [])
        self.check('"${u-$e}"', [EMPTY])

    def test_set(self):
        self.check("${u=a$x}$u", marked("a", "bare") + marked("a b", "loose") + marked("aa b", "loose"))
        self.check("${e=w}$e", [])
        self.check("${e:=w}$e", marked("w", "bare") + marked("w", "loose"))
        self.check("${x=w}$x", marked("a ba b", "loose"))
        self.check('"${u=a$x}"$u', marked("aa b", "firm") + marked("aa b", "loose"))
        self.check("${u=}${u-w}", [])
        self.check("${u:=}${u:-w}", marked("w", "bare"))
        self.check("${u=$@}$u", marked("1", "loose") + [CUT] + marked("2", "loose") + marked("1 2", "loose"),
                   room(arguments=["1", "2"]))
        self.check("${u=${v=w}}$v", marked("w", "bare") + marked("w", "loose"))
        self.check("${x=${v=w}}$v", marked("a b", "loose"))
        self.check("${1=w}${0=w}${?=w}${#:=w}", marked("1", "loose") + marked("me31", "loose"), room(arguments=["1"]))
        self.check("${@=w}${*:=w}", [], room(arguments=[""]))
        self.check("${2=w}", [], room(arguments=["1", ""]))

    def test_cuts(self):
        place = room({"x": "abcabc", "e": "", "y": "a*c", "p": "a*"})
        for text, value in (("${x#a*}", "bcabc"), ("${x##a*}", ""), ("${x#*c}", "abc"), ("${x##*c}", ""), ("${x##*b}", "c"),
                            ("${x^*c}", "abcab"), ("${x^c*}", "abcab"), ("${x^^c*}", "ab"), ("${x^^*}", ""), ("${x^*}", "abcabc"),
                            ("${x#z}", "abcabc"), ("${x^z}", "abcabc"), ("${x#}", "abcabc"), ("${x##}", "abcabc"), ("${x#'a*'}", "abcabc"),
                            ("${y#'a*'}", "c"), ("${x#$p}", "bcabc"), ("${x##$p}", ""), ("${x##\"$p\"}", "abcabc"), ("${y##\"$p\"}", "c"),
                            ("${x#[ab]}", "bcabc"), ("${x##?[!a]}", "cabc"), ("${e#*}", ""), ("${u##*}", ""), ("${x#${u-a}}", "bcabc"),
                            ("${0#m}", "e"), ("${?#3}", ""), ("${1#a}", ""), ("${#^0}", "")):
            self.check(text, marked(value, "loose"), place)
            self.check('"-' + text + '"', marked("-" + value, "firm"), place)
        self.check('"${x#a*}"', marked("bcabc", "firm"), place)
        self.check('"${x##a*}"', [EMPTY], place)

    def test_cuts_of_all_arguments(self):
        place = room(arguments=["ab", "a", "b", ""])
        for text in ("${@#a}", "${*#a}"):
            self.check(text, marked("b", "loose") + [CUT, CUT] + marked("b", "loose") + [CUT], place)
        self.check('"${@#a}"', marked("b", "firm") + [CUT, EMPTY, CUT] + marked("b", "firm") + [CUT, EMPTY], place)
        self.check('"${*#a}"', marked("b  b ", "firm"), place)
        self.check('"${*^^?}"', marked("a:::", "firm"), room(arguments=["ab", "a", "b", ""], sep=":"))
        self.check("${@##*}${*#a}", [])

    def test_words_of_cuts(self):
        self.check("${x#${u=a}}$u", marked(" b", "loose") + marked("a", "loose"))
        self.check("${u#${u=a}}$u", marked("a", "loose"))
        self.check("${x#${x+a}}", marked(" b", "loose"))
        self.check("${v-${e##${u=w}}}$u", marked("w", "loose"))
        self.check("${@#${u=w}}$u${*^${v=w}}$v", marked("ww", "loose"))
        self.check("${1#$(a)}${2#$(a)}", marked("2", "loose"), room(arguments=["1", "2"]), ["1", "1"])
        self.check("${@#$(a)}$(b)", marked("x", "loose") + [CUT] + marked("y2", "loose"), room(arguments=["1x", "1y"]),
                   ["1", "2"])
        self.check("${x#\"$@\"}", marked("c", "loose"), room({"x": "a bc"}, ["a", "b"]))
        self.check("${x#$@}", marked("c", "loose"), room({"x": "a bc"}, ["?", "b"]))
        self.check("${x#$*}", marked("a bc", "loose"), room({"x": "a bc"}, ["a", "", "b"]))
        self.check("\"${x#\"$*\"}\"", marked("c", "firm"), room({"x": "a:bc"}, ["a", "b"], sep=":"))

    def test_sums(self):
        place = room({"x": "5", "e": "", "a": "b"}, ["7"], "9", 4)
        for text, value in (("$((1 + 2))", "3"), ("$((x - 10))", "-5"), ("$((e + u))", "0"), ("$(($1 * $# + $? + $0))", "20"),
                            ("$(($2))", "0")):
            self.check(text, marked(value, "loose"), place)
            self.check('"' + text + '"', marked(value, "firm"), place)
        self.check("${u=6}$((u))", marked("6", "bare") + marked("6", "loose"), place)

    def test_runs(self):
        self.check("$(a)", marked("u v", "loose"), None, ["u v"])
        self.check("\"$(a)\"", marked("u\n\nv ", "firm"), None, ["u\n\nv \n\n\n"])
        self.check("$(a)$(b)", marked("\nuv", "loose"), None, ["\nu\n", "v\n"])
        self.check("$(a)", [], None, ["\n\n"])
        self.check("\"$(a)\"", [EMPTY], None, [""])
        self.check("${x-$(a)}${u-$(b)}", marked("a b", "loose") + marked("1", "loose"), None, ["1", "2"])
        self.check("$()", marked("1", "loose"), None, ["1", "2"])


class FieldsTest(unittest.TestCase):
    def check(self, text, expected, place=None, answers=()):
        with self.subTest(text=text):
            self.assertEqual(fields(read_word(text), place or room(), list(answers)), expected)

    def value(self, value, sep, expected, text="$v"):
        self.check(text, expected, room({"v": value}, sep=sep))

    def test_plain_words(self):
        self.check("a", ["a"])
        self.check("'a b'c", ["a bc"])
        self.check("''", [""])
        self.check("\"\"''", [""])
        self.check("$e", [])
        self.check("$e$u", [])
        self.check("\"$e\"", [""])
        self.check("''$e", [""])
        self.check("a$x\"$x\"", ["aa", "ba b"])

    def test_usual_separators(self):
        for value, expected in (("a b", ["a", "b"]), (" a  b\n\nc ", ["a", "b", "c"]), (" ", []), ("\n \n", []), ("", []),
                                ("a:b", ["a:b"]), ("a", ["a"])):
            self.value(value, None, expected)
            self.value(value, " \n", expected)
        self.value("a b\nc", "\n", ["a b", "c"])
        self.value("a b\nc", " ", ["a", "b\nc"])
        self.value("a b", "", ["a b"])
        self.value(" ", "", [" "])
        self.value("", "", [])

    def test_hard_separators(self):
        for value, expected in (("a:b", ["a", "b"]), ("a::b", ["a", "", "b"]), (":", [""]), ("::", ["", ""]), (":a", ["", "a"]),
                                ("a:", ["a"]), ("a b", ["a b"]), (" : ", [" ", " "]), ("a-b:c", ["a-b", "c"])):
            self.value(value, ":", expected)
        self.value("a-b:c", "-:", ["a", "b", "c"])
        self.value("aXbXXc", "X", ["a", "b", "", "c"])

    def test_both_kinds_of_separators(self):
        for value, expected in (("a : :b", ["a", "", "b"]), ("a :b", ["a", "b"]), ("a: b", ["a", "b"]), (" a : b ", ["a", "b"]),
                                (" : ", [""]), (" :: ", ["", ""]), (" : : ", ["", ""]), ("a  b", ["a", "b"]), (" ", []),
                                ("a :  : b : ", ["a", "", "b"]), (" a", ["a"]), ("a ", ["a"]), ("a\n:b", ["a\n", "b"])):
            self.value(value, " :", expected)
        self.value("a\n: \nb", " \n:", ["a", "b"])
        self.value("a \n \nb", "\n ", ["a", "b"])

    def test_what_stands_ahead_and_behind(self):
        self.check("p$s", ["p", "a"])
        self.check("${s}p", ["a", "p"])
        self.check("p${s}q", ["p", "a", "q"])
        self.check("p${x}q", ["pa", "bq"])
        self.check("''$s''", ["", "a", ""])
        self.check("''$x''", ["a", "b"])
        self.check("''$v''", ["", ""], room({"v": " "}))
        self.check("$v''", [""], room({"v": " "}))
        self.check("$v", [], room({"v": " "}))
        self.check("''$v", [""], room({"v": ":"}, sep=":"))
        self.check("''$v''", ["", ""], room({"v": ":"}, sep=":"))
        self.check("a$v", ["a"], room({"v": ":"}, sep=":"))
        self.check("a${v}b", ["a", "b"], room({"v": ":"}, sep=":"))
        self.check("'a:'$v", ["a:", "b"], room({"v": ":b"}, sep=":"))
        self.check("a:$v", ["a:b", "c"], room({"v": "b:c"}, sep=":"))
        self.check("$v$w", ["a", "b"], room({"v": "a ", "w": " : b"}, sep=" :"))
        self.check("$v''$w", ["a", "", "b"], room({"v": "a ", "w": ": b"}, sep=" :"))
        self.check("$v$e$w", ["a", "b"], room({"v": "a ", "w": ": b", "e": ""}, sep=" :"))

    def test_all_arguments(self):
        for text in ("$@", "$*", "\"$@\"", "\"$@$@\""):
            self.check(text, [])
        self.check("\"$*\"", [""])
        self.check("a$@", ["a"])
        self.check("\"a$@\"", ["a"])
        self.check("\"\"$@", [""])
        place = room(arguments=["1 2", "", "3"])
        self.check("$@", ["1", "2", "3"], place)
        self.check("$*", ["1", "2", "3"], place)
        self.check("\"$@\"", ["1 2", "", "3"], place)
        self.check("\"$*\"", ["1 2  3"], place)
        self.check("a$@b", ["a1", "2", "3b"], place)
        self.check("\"a$@b\"", ["a1 2", "", "3b"], place)
        self.check("\"$@$@\"", ["1 2", "", "31 2", "", "3"], place)
        self.check("$@", ["a", "b", "", "c"], room(arguments=["a:b", ":c"], sep=":"))
        self.check("$@", ["a", "", "b"], room(arguments=["a ", ": b"], sep=" :"))
        self.check("$@", ["a b", "c"], room(arguments=["a b", "c"], sep=""))
        self.check("$@", [], room(arguments=["", ""]))
        self.check("a$@b", ["a", "b"], room(arguments=["", ""]))
        self.check("''$@''", ["", ""], room(arguments=["", ""]))
        self.check("\"${@+$@}\"", ["1 2", "", "3"], place)

    def test_separators_as_they_are_at_the_end(self):
        self.check("$v${SEP=:}", ["a b", "c", ":"], room({"v": "a b:c:"}))
        self.check("${SEP:=b}$v", ["ba ", ":"], room({"v": "a b:"}, sep=""))
        self.check("\"$*\"${SEP=:}\"$*\"", ["1 2:1:2"], room(arguments=["1", "2"]))
        self.check("$*${SEP=}", ["a b", "c"], room(arguments=["a b", "c"]))
        self.check("$*${SEP=}", ["a", "b", "c"], room(arguments=["a b", "c"], sep=" "))

    def test_fields_that_give_way(self):
        paths = ["/a", "/a/b", "[x", "a", "a/b", "a/c", "ab", "b", "c*"]
        place = room({"v": "a*", "s": "a* b", "q": "?", "o": "[a"}, ["*", "x"], paths=paths)
        for text, expected in (
                ("*", ["[x", "a", "ab", "b", "c*"]), ("?", ["a", "b"]), ("a*", ["a", "ab"]), ("a/*", ["a/b", "a/c"]), ("*/*", ["/a", "a/b", "a/c"]),
                ("/*", ["/a"]), ("/*/*", ["/a/b"]), ("[ab]", ["a", "b"]), ("[!a]", ["b"]), ("[a-c]?", ["ab", "c*"]), ("z*", ["z*"]),
                ("'*'", ["*"]), ("\\*", ["*"]), ("\"*\"", ["*"]), ("c'*'", ["c*"]), ("c'*'*", ["c*"]), ("$v", ["a", "ab"]), ("\"$v\"", ["a*"]),
                ("$s", ["a", "ab", "b"]), ("$q$q", ["[x", "ab", "c*"]), ("${o}b]", ["a", "b"]), ("[$v]", ["a"]), ("$1", ["[x", "a", "ab", "b", "c*"]),
                ("a[/]b", ["a[/]b"]), ("a?b", ["a?b"]), ("a[!x]b", ["a[!x]b"]), ("a/b", ["a/b"]), ("*[", ["*["]), ("[x", ["[x"]), ("*x", ["[x"]),
                ("$@", ["[x", "a", "ab", "b", "c*", "x"]), ("${u-a*}", ["a", "ab"]), ("\"${u-a*}\"", ["a*"]), ("${u:='a*'}", ["a*"]),
                ("a''*", ["a", "ab"]), ("a\"$e\"*", ["a", "ab"]), ("[a'-'c]", ["a"]), ("['!'a]", ["a"]), ("['a]'", ["[a]"])):
            self.check(text, expected, place)
        self.check("*", ["*"], room())
        self.check("${#x}", ["1"], room({"x": "*"}, paths=["1"]))
        self.check("$(a)", ["a", "ab", "z?"], place, ["a* z?\n"])

    def test_all_fields(self):
        words = [read_word(text) for text in ("${u=1}", "$u$x", "\"$e\"", "$e", "*")]
        self.assertEqual(all_fields(words, room(paths=["a", "b"]), []), ["1", "1a", "b", "", "a", "b"])
        self.assertEqual(all_fields([], room(), []), [])
        words = [read_word(text) for text in ("$v", "${SEP:=:}", "$v")]
        self.assertEqual(all_fields(words, room({"v": "a b:c"}), []), ["a", "b:c", ":", "a b", "c"])
        words = [read_word("$(a)"), read_word("\"$(b)\"")]
        self.assertEqual(all_fields(words=words, room=room(), answers=["1 2", "3 4"]), ["1", "2", "3 4"])

    def test_quoted_texts_come_to_themselves(self):
        texts = ["", "a", "a b", "*", "it's", "$x", "\\", "if", "a\nb", "[a]", "\"", "x=1", "~", "-n", "`'`"]
        words = read_script("a " + quote_all(texts))[0][2][1:]
        for sep in (None, "", "abt", " :"):
            place = room({"x": "y"}, ["1"], sep=sep, paths=["a", "b", "if"])
            self.assertEqual(all_fields(words, place, []), texts)


class OtherTest(unittest.TestCase):
    def test_joined(self):
        place = room(arguments=["1 2", "", "3"], paths=["a", "b"])
        for text, expected in (("$x*", "a b*"), ("$@", "1 2  3"), ("\"$@\"", "1 2  3"), ("a\"$*\"b", "a1 2  3b"), ("''", ""),
                               ("$e", ""), ("$s", " a "), ("${u=w}$u", "ww")):
            self.assertEqual(joined(read_word(text), place, []), expected, text)
        self.assertEqual(joined([], room(), []), "")
        self.assertEqual(joined(word=read_word("$(a)"), room=room(), answers=["b\n"]), "b")

    def test_pattern(self):
        place = room({"v": "*[a-c]"}, ["?", "*"])
        for text, expected in (
                ("a*", [("one", "a"), ("lot",)]), ("'*'*", [("one", "*"), ("lot",)]), ("$v", [("lot",), ("of", False, [("a", "c")])]),
                ("\"$v\"", [("one", sign) for sign in "*[a-c]"]), ("$@", [("any",), ("one", " "), ("lot",)]), ("''", []),
                ("[$1]", [("of", False, [("?", "?")])]), ("['a'-c]", [("of", False, [("a", "c")])])):
            self.assertEqual(pattern(read_word(text), place, []), expected, text)
        self.assertEqual(pattern([], room(), []), [])
        self.assertEqual(pattern(word=read_word("$(a)"), room=room(), answers=["?"]), [("any",)])

    def test_names_behind(self):
        self.assertEqual(names_behind(read_word("a"), room({"x": "1"}), []), {"x": "1"})
        self.assertEqual(names_behind(read_word("${y=$x}${x=2}${z:=}"), room({"x": "1"}), []), {"x": "1", "y": "1", "z": ""})
        self.assertEqual(names_behind([], room({"x": "1"}), []), {"x": "1"})
        self.assertEqual(names_behind(word=read_word("${x+${y=1}}${x-${z=1}}"), room=room({"x": ""}), answers=[]), {"x": "", "y": "1"})
        self.assertEqual(names_behind(read_word("${x:=$(a)}"), room({"x": ""}), ["q r\n"]), {"x": "q r"})


class RefusalsTest(unittest.TestCase):
    def refuse(self, text, error, value, place=None, answers=()):
        word = read_word(text)
        for call in (signs, fields, joined, pattern, names_behind,
                     lambda word, place, answers: all_fields([read_word("a"), word], place, answers)):
            with self.subTest(text=text):
                with self.assertRaises(ShellError) as caught:
                    call(word, place or room(), list(answers))
                self.assertIs(caught.exception.__class__, error)
                self.assertEqual(caught.exception.value, value)

    def test_must(self):
        self.refuse("${u?}", Refused, ("u", ""))
        self.refuse("${u?a$x'*'}", Refused, ("u", "aa b*"))
        self.refuse("${e:?no}", Refused, ("e", "no"))
        self.refuse("${3?}", Refused, ("3", ""), room(arguments=["1", ""]))
        self.refuse("${2:?$@}", Refused, ("2", "1 "), room(arguments=["1", ""]))
        self.refuse("${@?none}", Refused, ("@", "none"))
        self.refuse("\"${*:?}\"", Refused, ("*", ""))
        for text in ("${x?}", "${e?no}", "${x:?}", "${0?}", "${??}", "${#:?}", "${1?}"):
            self.assertIsInstance(fields(read_word(text), room(arguments=["1"]), []), list)
        self.assertEqual(fields(read_word("${@?}"), room(arguments=[""]), []), [])

    def test_set_of_places(self):
        for place in ("1", "@", "*", "10"):
            self.refuse("${" + place + "=$(a)${u?}}", Refused, (place, ""))
            self.refuse("\"${" + place + ":=a}\"", Refused, (place, ""))
        self.refuse("${1:=}", Refused, ("1", ""), room(arguments=[""]))
        self.refuse("${0:=}", Refused, ("0", ""), room(title=""))

    def test_sums(self):
        self.refuse("$((1 / 0))", DividedByZero, ("/", ("number", 1), ("number", 0)))
        self.refuse("a$((x))", NoInteger, "a b")
        self.refuse("$(($0))", NoInteger, "me")
        self.refuse("$((" + "9" * 41 + "))", TooGreat, ("number", int("9" * 41)))

    def test_runs(self):
        script = read_script("a $x")
        self.refuse("$(a $x)", Wanted, (script, NAMES))
        self.refuse("$(b)$(a $x)", Wanted, (script, NAMES), None, ["1"])
        self.refuse("${u=$x}$(a $x)", Wanted, (script, {**NAMES, "u": "a b"}))
        self.refuse("\"${u-$(a $x)}\"", Wanted, (script, NAMES))
        self.refuse("${x#$(a $x)}", Wanted, (script, NAMES))
        self.refuse("$()", Wanted, ([], NAMES))

    def test_what_is_come_to_first(self):
        self.refuse("${u?1}${v?2}", Refused, ("u", "1"))
        self.refuse("${u?$((1/0))}", DividedByZero, ("/", ("number", 1), ("number", 0)))
        self.refuse("${u?$(a)}", Wanted, (read_script("a"), NAMES))
        self.refuse("$(a)${u?}", Wanted, (read_script("a"), NAMES))
        self.refuse("${u?}$(a)", Refused, ("u", ""))
        self.refuse("${u-${v=1}${w?}}", Refused, ("w", ""))
        self.refuse("${@#${u?}}", Refused, ("u", ""))
        self.refuse("${e##${u?}}", Refused, ("u", ""))
        self.refuse("\"${u=${v?a}}\"", Refused, ("v", "a"))

    def test_words_that_are_not_looked_at(self):
        for text in ("${x-$(a)${u?}$((1/0))}", "${u+$(a)${v?}}", "${x=$(a)}", "${x?$(a)}", "${u:+${1=}}", "${@+$(a)}", "${#-$(a)}"):
            self.assertIsInstance(fields(read_word(text), room(), []), list, text)


class WrongTest(unittest.TestCase):
    def refuse(self, error, word, place, value, empty=False):
        calls = [signs, fields, lambda word, place, answers: all_fields([[("bare", "a")], word], place, answers)]
        if not empty:
            calls += [joined, pattern, names_behind]
        for call in calls:
            with self.assertRaises(ShellError) as caught:
                call(word, place, [])
            self.assertIs(caught.exception.__class__, error)
            self.assertEqual(caught.exception.value, value)
            self.assertEqual(set(lists_in(caught.exception.value)) & set(lists_in((word, place))), set())

    def test_wrong_words(self):
        self.refuse(InvalidTree, [], room(), [], empty=True)
        for word in ([("bare", "")], [("bare", "a"), ("bare", "b")], [("plain", "a")], [("held", "'")], [("what", "a")], [run(WRONG)],
                     [("name", "1a", ())], [("wide", [("bare", "a")])], [("sum", ("of", "@"))],
                     [("name", "x", ("lack", False, [("mark", "ab")]))]):
            self.refuse(InvalidTree, word, room(), word)
            self.refuse(InvalidTree, word, room(status=256), word)

    def test_wrong_rooms(self):
        word = read_word("${u?}")
        for place in (room({"1": "a"}), room({"": "a"}), room({"a b": "a"}), room(status=-1), room(status=256), room(paths=[""]),
                      room(paths=["/"]), room(paths=["a/"]), room(paths=["a//b"]), room(paths=["//a"]), room(paths=["b", "a"]),
                      room(paths=["a", "a"]), room(paths=["/a", "/a"]), room(paths=["a", "/a"])):
            self.refuse(InvalidRoom, word, place, place)
        with self.assertRaises(InvalidRoom):
            all_fields([], room(status=-1), [])
        with self.assertRaises(InvalidRoom):
            joined([], room(status=-1), [])
        for place in (room(status=0), room(status=255), room(paths=["/a", "/a/b", "a", "a/.", "b/.."]), room({}), room(title="")):
            self.assertEqual(fields(read_word("a"), place, []), ["a"])

    def test_the_first_wrong_word(self):
        with self.assertRaises(InvalidTree) as caught:
            all_fields([[("bare", "a")], [("bare", "")], []], room(status=-1), [])
        self.assertEqual(caught.exception.value, [("bare", "")])

    def test_nothing_passed_is_changed_or_kept(self):
        word, place, answers = read_word("${u=$(a)}$@${x#${v=1}}"), room(arguments=["1"]), ["b", "c"]
        ahead = copy.deepcopy((word, place, answers))
        for call in (signs, fields, joined, pattern):
            call(word, place, answers)
        behind = names_behind(word, place, answers)
        behind["z"] = "1"
        all_fields([word, word], place, answers)
        self.assertEqual((word, place, answers), ahead)
        wanted = read_word("$(a b)")
        with self.assertRaises(Wanted) as caught:
            fields(wanted, place, [])
        script, names = caught.exception.value
        self.assertEqual(set(lists_in((script, names))) & set(lists_in((wanted, place))), set())
