"""`read_word`, `read_sum`, `quote` and `quote_all`."""

import unittest

from quotedback.errors import Unreadable
from quotedback.readings import quote, quote_all, read_script, read_sum, read_word
from quotedback.texts import show_sum, show_word
from quotedback.trees import is_word
from tests.building import A, bare, do, here, lists_in, name, run
from tests.growing import Grower


def refuses(test, reader, *texts):
    for text in texts:
        with test.subTest(text=text):
            with test.assertRaises(Unreadable) as caught:
                reader(text)
            test.assertEqual(caught.exception.value, text)


class ReadWordTest(unittest.TestCase):
    def check(self, text, *pieces):
        with self.subTest(text=text):
            word = read_word(text)
            self.assertEqual(word, list(pieces))
            self.assertTrue(is_word(word))
            self.assertEqual(read_word(show_word(word)), word)

    def test_plain_pieces(self):
        self.check("a", ("bare", "a"))
        self.check("a.b/_-,:+@=*?[]!~9Z", ("bare", "a.b/_-,:+@=*?[]!~9Z"))
        self.check("x=1", ("bare", "x=1"))
        self.check("esac", ("bare", "esac"))
        self.check("''", ("held", ""))
        self.check("'a''$`\"\\\n#'", ("held", "a"), ("held", "$`\"\\\n#"))
        self.check("a\\bc\\ \\'\\$", ("bare", "a"), ("mark", "b"), ("bare", "c"), ("mark", " "), ("mark", "'"),
                   ("mark", "$"))
        self.check("\\\\a", ("mark", "\\"), ("bare", "a"))

    def test_wides(self):
        self.check('""', ("wide", []))
        self.check('"a b\n#\'{"', ("wide", [("plain", "a b\n#'{")]))
        self.check(r'"\"\\\$\`\a\ "', ("wide", [("plain", "\"\\$`\\a\\ ")]))
        self.check('"\\\n"', ("wide", [("plain", "\\\n")]))
        self.check('a"$x"\'\'', ("bare", "a"), ("wide", [name("x")]), ("held", ""))
        self.check('"a$x${y}b"', ("wide", [("plain", "a"), name("x"), name("y"), ("plain", "b")]))
        self.check('"${x-"a b"\'c\'\\d}"', ("wide", [name("x", "lack", False, [
            ("wide", [("plain", "a b")]), ("held", "c"), ("mark", "d")])]))
        self.check('"$((1))$(a "b")"', ("wide", [("sum", ("number", 1)), run(do("a", [("wide", [("plain", "b")])]))]))

    def test_names(self):
        self.check("$x_1-", name("x_1"), ("bare", "-"))
        self.check("${x}a", name("x"), ("bare", "a"))
        self.check("$12", name("1"), ("bare", "2"))
        self.check("${12}3", name("12"), ("bare", "3"))
        for place in "0123456789#?@*":
            self.check("$" + place + "a", name(place), ("bare", "a"))
            self.check("${" + place + "}", name(place))
            self.check("${#" + place + "}", name(place, "size"))
            self.check("${" + place + "-}", name(place, "lack", False, []))
        self.check("${#x}${#10}", name("x", "size"), name("10", "size"))

    def test_deeds(self):
        for kind, mark in (("lack", "-"), ("set", "="), ("must", "?"), ("other", "+")):
            self.check("${x" + mark + "}", name("x", kind, False, []))
            self.check("${x:" + mark + "}", name("x", kind, True, []))
            self.check("${#:" + mark + "a}", name("#", kind, True, bare("a")))
            self.check("${#" + mark + "a}", name("#", kind, False, bare("a")))
            self.check("${10" + mark + mark + "}" if mark != "?" else "${10??}", name("10", kind, False, bare(mark)))
        for mark in ("#", "##", "^", "^^"):
            self.check("${x" + mark + "}", name("x", "cut", mark, []))
            self.check("${@" + mark + "*/$y'#'}", name("@", "cut", mark, [("bare", "*/"), name("y"), ("held", "#")]))
            self.check("${#" + mark + "a}", name("#", "cut", mark, bare("a")))
        self.check("${###}", name("#", "cut", "##", []))
        self.check("${??}", name("?", "must", False, []))
        self.check("${x-${y+${z#'}'}}}", name("x", "lack", False, [name("y", "other", False, [
            name("z", "cut", "#", [("held", "}")])])]))

    def test_sums_and_runs_in_words(self):
        self.check("$((1 +\n2))a", ("sum", ("+", ("number", 1), ("number", 2))), ("bare", "a"))
        self.check("$(((1)))", ("sum", ("number", 1)))
        self.check("$()", run())
        self.check("$( \n# a)\n)", run())
        self.check("$(a)$(a;)$(\na\n)", run(A), run(A), run(A))
        self.check("$( (a))", run(("apart", [A], [])))
        self.check("$(#)\na)", run(A))
        self.check("$(a '(')", run(do("a", [("held", "(")])))
        self.check("$(cat <<E\n)\nE\n)", run(do("cat", turns=[here(("plain", ")\n"))])))
        self.check("${x-$(a <<'E'\n}\nE\n)}", name("x", "lack", False, [run(do("a", turns=[(0, "<<", [("held", "}\n")])]))]))

    def test_what_is_no_word(self):
        refuses(self, read_word, "", " ", " a", "a ", "a b", "\n", "a\n", "a;", "a|b", "a&", "(a)", "a)", "<a", "a>b", "#",
                "a#", "^", "a^", "{", "}", "{a}", "a{", "`", "a`b`", "'", "'a", "a'", '"', '"a', '"a`"', '"\\', '"\\"',
                "\\", "\\\n", "a\\", "a\\\nb")

    def test_dollars_that_are_not_read(self):
        refuses(self, read_word, "$", "a$", "$ a", "$-", "$'a'", "$\"a\"", "$$", "$!", "$\\a", '"$"', '"$ "', '"$-"', "$%",
                "${", "${}", "${x", "${x-a", "${ x}", "${x }", "${-a}", "${x:}", "${x:a}", "${x:#a}", "${x!}", "${x a}",
                "${x-a b}", "${x-a\n}", "${x-(}", "${x-#}", "${x-{}}", "${x-^}", "${01}", "${00}", "${1a}", "${#", "${#}x}",
                "${#x-}", "${#@-a}", "${#01}", "${###x#}", "${x^^^}", "${x###}", "$(", "$(a", "$(a;;)", "$(a))", "$(;)",
                "$((1)", "$((1) )", "$(())", "$((a); b)", "$((a)b)", "$(cat <<E)", "$(cat <<E\n)", "$(cat <<E\nE)")

    def test_depths_and_sizes(self):
        self.check("\\a" * 60, *[("mark", "a")] * 60)
        for opening, closing in (("${x-", "}"), ("$(", ")"), ('"${x-', '}"'), ('"$(', ')"')):
            text = opening * 12 + "a" + closing * 12
            self.assertEqual(show_word(read_word(text)), text)
        for opening, closing in (("${x-", "}"), ("$(", ")"), ('"$(', ')"'), ("$((", "))"), ("$(((", ")))")):
            many = 30 // (2 if '"' in opening else 1)
            refuses(self, read_word, opening * many, opening * many + "|" + closing * many)
        refuses(self, read_sum, "(" * 30, "(" * 30 + ")" * 30)
        self.assertEqual(read_sum("(" * 30 + "1" + ")" * 30), ("number", 1))

    def test_grown_words_are_read_as_they_were(self):
        for seed in range(300):
            word = Grower(seed).word(3)
            self.assertEqual(read_word(show_word(word)), word)

    def test_arguments_by_name_and_new_lists(self):
        word = read_word(text="${x-a}\"$y\"")
        self.assertEqual(len(lists_in(word)), len(set(lists_in(word))))
        self.assertEqual(read_sum(text="1"), ("number", 1))
        self.assertEqual(read_script(text="a"), [A])


class ReadSumTest(unittest.TestCase):
    def check(self, text, shown):
        with self.subTest(text=text):
            self.assertEqual(show_sum(read_sum(text)), shown)
            self.assertEqual(read_sum(shown), read_sum(text))

    def test_parts(self):
        self.assertEqual(read_sum("0"), ("number", 0))
        self.assertEqual(read_sum("\n 10 \n"), ("number", 10))
        self.assertEqual(read_sum("9" * 41), ("number", 10 ** 41 - 1))
        for place in ("0", "1", "10", "999999999", "#", "?"):
            self.assertEqual(read_sum("$" + place), ("of", place))
        self.assertEqual(read_sum("x_1"), ("of", "x_1"))
        self.assertEqual(read_sum("-x"), ("minus", ("of", "x")))
        self.assertEqual(read_sum("!\n- 1"), ("no", ("minus", ("number", 1))))
        self.assertEqual(read_sum("a?b:c"), ("choose", ("of", "a"), ("of", "b"), ("of", "c")))
        for sign in ("*", "/", "^", "+", "-", "<", "<=", ">", ">=", "==", "!=", "&&", "||"):
            self.assertEqual(read_sum("a" + sign + "b"), (sign, ("of", "a"), ("of", "b")))
            self.assertEqual(read_sum("a\n" + sign + " -1 "), (sign, ("of", "a"), ("minus", ("number", 1))))

    def test_ranks(self):
        self.check("1-2-3", "1 - 2 - 3")
        self.check("1-(2-3)", "1 - (2 - 3)")
        self.check("((1))*((2+3))", "1 * (2 + 3)")
        self.check("!(a==b)", "!(a == b)")
        self.check("(!a)==b", "!a == b")
        self.check("-a^b", "-a ^ b")
        self.check("a||b&&c==d<e+f*g", "a || b && c == d < e + f * g")
        self.check("a*b+c<d==e&&f||g", "a * b + c < d == e && f || g")
        self.check("a?b:(c?d:e)", "a ? b : c ? d : e")
        self.check("(a?b:c)?d:e", "(a ? b : c) ? d : e")
        self.check("a?b?c:d:e", "a ? b ? c : d : e")
        self.check("a||b?c||d:e||f", "a || b ? c || d : e || f")
        self.check("a<b<c>d", "a < b < c > d")
        self.check("a--b", "a - -b")
        self.check("a/b*c^d", "a / b * c ^ d")

    def test_wrong_sums(self):
        refuses(self, read_sum, "", " ", "00", "01", "1 2", "1a", "a 1", "a b", "+1", "1+", "*1", "1 +* 2", "a<<b", "a = b",
                "a=b", "a= =b", "a< =b", "a ! = b", "a & & b", "a|b", "a&b", "a?b", "a?:b", "a?b:", "?a:b", "(1", "1)", "()",
                "(", "$", "$x", "$@", "$*", "$01", "${1}", "$ 1", "#", "1.5", "'1'", "\\1", "1;", "a,b", "1\\\n", "-", "!",
                "1 # a")

    def test_grown_sums_are_read_as_they_were(self):
        for seed in range(300):
            tree = Grower(seed).sum(5)
            self.assertEqual(read_sum(show_sum(tree)), tree)
        deep = ("of", "x")
        for at in range(11):
            deep = (("-", deep, ("number", 1)), ("minus", deep), ("choose", deep, deep, deep))[at % 3 if at < 7 else 1]
        self.assertEqual(read_sum(show_sum(deep)), deep)


class QuoteTest(unittest.TestCase):
    def test_quote(self):
        for text in ("", "a", "a b", "\n", "\"$x\\`", "if", "*"):
            self.assertEqual(quote(text), [("held", text)])
        for text in ("'", "it's", "'\"$`\\"):
            self.assertEqual(quote(text=text), [("wide", [("plain", text)])])
        self.assertIsNot(quote("a"), quote("a"))

    def test_quote_all(self):
        self.assertEqual(quote_all([]), "")
        self.assertEqual(quote_all(texts=["a", "A9./_-,:+@z"]), "a A9./_-,:+@z")
        self.assertEqual(quote_all(["", "a b", "\n", "it's"]), "'' 'a b' '\n' \"it's\"")
        self.assertEqual(quote_all(["'$\"`\\'"]), "\"'\\$\\\"\\`\\\\'\"")
        for sign in "=*?[]!~#^&|;()<>{}$\\\"` \n":
            self.assertEqual(quote_all(["a" + sign]), "'a" + sign + "'")
        for word in ("if", "then", "elif", "else", "fi", "while", "until", "do", "done", "for", "in", "case", "esac",
                     "{", "}", "!"):
            self.assertEqual(quote_all(["a", word]), "a '" + word + "'")
        self.assertEqual(quote_all(["iff", "If", "echo"]), "iff If echo")

    def test_what_is_quoted_is_read(self):
        texts = ["a", "", "if", "it's", "x=1", "$x", "*", "2", "\\", "a\nb", "'\"'"]
        self.assertEqual(len(read_script(quote_all(texts))[0][2]), len(texts))
        self.assertEqual(read_script(quote_all(texts))[0][2][3], [("wide", [("plain", "it's")])])
