"""The functions of patterns.py."""

import copy
import itertools
import random
import unittest

from quotedback.errors import InvalidPattern
from quotedback.patterns import (
    common, first_apart, heads, is_pattern, least_text, meets, never_met, pattern_of, same, shown_least, tails, unmet, within,
)
from tests.building import lists_in

LOT, ANY = ("lot",), ("any",)
SIGNS = "\n" + "".join(chr(code) for code in range(32, 127) if code != 37)
WRONG = [
    [()], [("one",)], [("one", "")], [("one", "ab")], [("one", "a", "b")], [("any", "a")], [("lot", "a")], [("many",)], [("any",), ()],
    [("of", False)], [("of", False, [])], [("of", True, [])], [("of", False, [()])], [("of", False, [("a",)])],
    [("of", False, [("a", "b", "c")])], [("of", False, [("b", "a")])], [("of", False, [("a", "b"), ("", "a")])],
    [("of", False, [("a", "bc")])], [("of", False, [("a", "a")], "a")], [("one", "%")], [("one", "\t")], [("of", True, [("a", "\n")])],
]


def ones(text):
    return [("one", sign) for sign in text]


def of(*ranges):
    return ("of", False, [(told[0], told[-1]) for told in ranges])


def none_of(*ranges):
    return ("of", True, [(told[0], told[-1]) for told in ranges])


def parse(text):
    """The pattern of a text all of whose signs are bare."""
    return pattern_of([(sign, "bare") for sign in text])


def lets(pattern, text):
    """Tells in the plainest way whether a pattern lets a text by."""
    if pattern == []:
        return text == ""
    first = pattern[0]
    if first == LOT:
        return any(lets(pattern[1:], text[at:]) for at in range(len(text) + 1))
    if text == "":
        return False
    if first[0] == "one" and text[0] != first[1]:
        return False
    if first[0] == "of" and any(one <= text[0] <= last for one, last in first[2]) == first[1]:
        return False
    return lets(pattern[1:], text[1:])


def texts_to(length, signs):
    for many in range(length + 1):
        for told in itertools.product(signs, repeat=many):
            yield "".join(told)


def grown(seed, most, signs="ab"):
    """A pattern by chance, all of whose signs are of a few."""
    chance = random.Random(seed)
    pieces = [LOT, LOT, ANY] + ones(signs) + [of(signs[0]), none_of(signs[-1]), of(signs[0], signs)]
    return [chance.choice(pieces) for _ in range(chance.randint(0, most))]


class PatternOfTest(unittest.TestCase):
    def check(self, text, *pieces):
        self.assertEqual(parse(text), list(pieces), text)

    def test_plain_signs(self):
        self.assertEqual(pattern_of([]), [])
        self.check("a*?", ("one", "a"), LOT, ANY)
        for mark in ("bare", "loose"):
            self.assertEqual(pattern_of([("*", mark), ("?", mark), ("a", mark)]), [LOT, ANY, ("one", "a")])
        self.assertEqual(pattern_of([(sign, "firm") for sign in "*?[a]"]), ones("*?[a]"))
        self.assertEqual(pattern_of(signs=[("", "firm"), ("a", "bare"), ("", "cut"), ("b", "loose"), ("", "bare")]), ones("ab"))

    def test_ofs(self):
        self.check("[a]", of("a"))
        self.check("[ab]c", of("a", "b"), ("one", "c"))
        self.check("[ba]", of("b", "a"))
        self.check("[aa]", of("a", "a"))
        self.check("[!a]", none_of("a"))
        self.check("[!!]", none_of("!"))
        self.check("[a!]", of("a", "!"))
        self.check("[]]", of("]"))
        self.check("[]a]", of("]", "a"))
        self.check("[!]]", none_of("]"))
        self.check("[!]a]", none_of("]", "a"))
        self.check("[[]", of("["))
        self.check("[[a]]", of("[", "a"), ("one", "]"))
        self.check("[*?]", of("*", "?"))

    def test_ranges(self):
        self.check("[a-c]", of("ac"))
        self.check("[!a-cx-z]", none_of("ac", "xz"))
        self.check("[a-a]", of("aa"))
        self.check("[c-a]", of("c", "-", "a"))
        self.check("[-a]", of("-", "a"))
        self.check("[a-]", of("a", "-"))
        self.check("[-]", of("-"))
        self.check("[--a]", of("-a"))
        self.check("[a-c-e]", of("ac", "-", "e"))
        self.check("[a-c-]", of("ac", "-"))
        self.check("[]-a]", of("]a"))
        self.check("[!-a]", none_of("-", "a"))
        self.check("[a--]", of("a", "-", "-"))
        self.check("[+--]", of("+-"))

    def test_brackets_without_end(self):
        self.check("[", ("one", "["))
        self.check("[]", *ones("[]"))
        self.check("[!]", *ones("[!]"))
        self.check("[!", *ones("[!"))
        self.check("[a*", *ones("[a"), LOT)
        self.check("[]*", *ones("[]"), LOT)
        self.check("[[[a]", of("[", "[", "a"))
        self.check("a]", *ones("a]"))
        self.check("[][a]", of("]", "[", "a"))

    def test_firm_signs_in_ofs(self):
        def marked(text, firm):
            return pattern_of([(sign, "firm" if at in firm else "loose") for at, sign in enumerate(text)])
        self.assertEqual(marked("[a]", {0}), ones("[a]"))
        self.assertEqual(marked("[a]", {2}), ones("[a]"))
        self.assertEqual(marked("[a]]", {2}), [of("a", "]")])
        self.assertEqual(marked("[!a]", {1}), [of("!", "a")])
        self.assertEqual(marked("[a-c]", {2}), [of("a", "-", "c")])
        self.assertEqual(marked("[a-c]", {1, 3}), [of("ac")])
        self.assertEqual(marked("[]]", {1}), [of("]")])
        self.assertEqual(marked("[]a", {1}), ones("[]a"))
        self.assertEqual(marked("[*]", {1}), [of("*")])
        self.assertEqual(pattern_of([("[", "bare"), ("", "firm"), ("]", "bare"), ("", "cut"), ("]", "bare")]), [of("]")])


class PatternTest(unittest.TestCase):
    def test_is_pattern(self):
        for pattern in ([], [LOT, LOT], [ANY], ones("a\n~ "), [of("\n~", "a", "ab"), none_of(" ")], [of("\n ")]):
            self.assertIs(is_pattern(pattern), True, pattern)
        for pattern in WRONG:
            self.assertIs(is_pattern(pattern=pattern), False, pattern)
            self.assertIs(is_pattern([LOT] + pattern), False, pattern)

    def test_each_error_with_the_first_pattern_that_is_none(self):
        good = [LOT]
        for wrong in WRONG:
            other = [("two",)]
            calls = [
                lambda: meets(wrong, ""), lambda: heads(wrong, ""), lambda: tails(wrong, ""), lambda: least_text(wrong),
                lambda: shown_least(wrong),
            ]
            for call in (same, within, first_apart, common):
                calls += [lambda call=call: call(wrong, good), lambda call=call: call(good, wrong),
                          lambda call=call: call(wrong, other)]
            for call in (never_met, unmet):
                calls += [lambda call=call: call([[good], [good, wrong], [other]]), lambda call=call: call([[], [wrong]])]
            for call in calls:
                with self.assertRaises(InvalidPattern) as caught:
                    call()
                self.assertEqual(caught.exception.value, wrong)
                self.assertIsNot(caught.exception.value, wrong)
                self.assertEqual(set(lists_in(caught.exception.value)) & set(lists_in(wrong)), set())

    def test_meets(self):
        for text, shown, others in (("", ("",), ("a", "\n")), ("*", ("", "a", "\n~ "), ()), ("?", ("a", "\n"), ("", "ab")),
                                    ("a*b", ("ab", "abb", "axb"), ("a", "b", "ba", "abc")), ("*a*", ("a", "ba", "aab"), ("", "b")),
                                    ("[a-c]", ("a", "b", "c"), ("d", "", "aa")), ("[!a-c]", ("d", "\n", "-"), ("a", "", "dd")),
                                    ("??", ("ab",), ("a", "abc")), ("**", ("", "a"), ()), ("a?*", ("ab", "abc"), ("a", "b"))):
            for one in shown:
                self.assertIs(meets(parse(text), one), True, (text, one))
            for one in others:
                self.assertIs(meets(pattern=parse(text), text=one), False, (text, one))

    def test_heads_and_tails(self):
        for pattern, text, ahead, behind in (
                ("*", "ab", [0, 1, 2], [0, 1, 2]), ("", "ab", [0], [0]), ("a*", "ab", [1, 2], [2]), ("*b", "abb", [2, 3], [1, 2, 3]),
                ("*b*", "abc", [2, 3], [2, 3]), ("?", "", [], []), ("", "", [0], [0]), ("*", "", [0], [0]), ("a", "aba", [1], [1]),
                ("??", "abc", [2], [2]), ("a*a", "aaba", [2, 4], [3, 4]), ("?*", "ab", [1, 2], [1, 2]), ("ba", "aba", [], [2]),
                ("ab", "aba", [2], [])):
            self.assertEqual(heads(parse(pattern), text), ahead, (pattern, text))
            self.assertEqual(tails(parse(pattern), text), behind, (pattern, text))
        for seed in range(150):
            pattern = grown(seed, 6)
            for text in ("", "a", "abab", "bbaac"):
                self.assertEqual(heads(pattern=pattern, text=text),
                                 [many for many in range(len(text) + 1) if lets(pattern, text[:many])])
                self.assertEqual(tails(pattern=pattern, text=text),
                                 [many for many in range(len(text) + 1) if lets(pattern, text[len(text) - many:])])
        self.assertEqual(heads([LOT, ("one", "b")], "ab" * 2000)[-1], 4000)

    def test_least_text(self):
        self.assertEqual(least_text([]), "")
        self.assertEqual(least_text(pattern=parse("a*?[c-b]*[!\n- ]")), "a\n-!")
        self.assertEqual(least_text([none_of("\n~")]), None)
        self.assertEqual(least_text([LOT, none_of("\nm", "n~"), ("one", "a")]), None)
        self.assertEqual(least_text([none_of("\n$")]), "&")
        self.assertEqual(least_text([of("z", "b", "c")]), "b")

    def test_patterns_compared_with_all_short_texts(self):
        texts = list(texts_to(5, "\nabc"))
        for seed in range(200):
            one, other = grown(seed, 4), grown(seed + 1000, 4)
            mine = {text for text in texts if lets(one, text)}
            yours = {text for text in texts if lets(other, text)}

            def least(found):
                return min(found, key=lambda text: (len(text), text), default=None)
            self.assertEqual(first_apart(one, other), least(mine ^ yours), (one, other))
            self.assertEqual(common(one, other), least(mine & yours), (one, other))
            self.assertEqual(within(one, other), mine <= yours, (one, other))
            self.assertEqual(same(one, other), mine == yours, (one, other))
            arms = [[one], [other, grown(seed + 2000, 3)], [grown(seed + 3000, 4)], []]
            left = set(texts)
            never = []
            for index, arm in enumerate(arms):
                taken = {text for text in left if any(lets(pattern, text) for pattern in arm)}
                left -= taken
                never += [index] if taken == set() else []
            self.assertEqual(never_met(arms), never, arms)
            self.assertEqual(unmet(arms), least(left), arms)

    def test_pairs(self):
        for one, other, apart, shared in (
                ([], [], None, ""), ([LOT], [LOT, LOT], None, ""), ([], [LOT], "\n", ""), ([], [ANY], "", None),
                (parse("a*"), parse("*a"), "\na", "a"), (parse("a"), parse("b"), "a", None), (parse("[a-c]"), parse("[b-d]"), "a", "b"),
                ([of("\n~")], [ANY], None, "\n"), ([of(" ~")], [ANY], "\n", " "), ([of("\n}")], [ANY], "~", "\n"),
                ([none_of("~")], [of("\n}")], None, "\n"), ([none_of("\n")], [of(" ~")], None, " "),
                ([of("\n$", "&~")], [ANY], None, "\n"), ([none_of("\n~")], [none_of("\nz", "a~")], None, None),
                ([none_of("\n~"), LOT], [LOT, none_of("\n~")], None, None), (parse("?*?"), parse("??*"), None, "\n\n"),
                (parse("*a*b*"), parse("*ab*"), "a\nb", "ab"), (parse("*[ab]*"), parse("*[a-b]*"), None, "a")):
            self.assertEqual(first_apart(one=one, other=other), apart)
            self.assertEqual(first_apart(other, one), apart)
            self.assertEqual(common(one=one, other=other), shared)
            self.assertEqual(common(other, one), shared)
            self.assertIs(same(one=one, other=other), apart is None)
        self.assertIs(within(one=parse("a?"), other=parse("a*")), True)
        self.assertIs(within(parse("a*"), parse("a?")), False)
        self.assertIs(within([none_of("\n~")], []), True)
        self.assertIs(within([LOT], [LOT]), True)

    def test_arms(self):
        self.assertEqual(never_met([]), [])
        self.assertEqual(unmet([]), "")
        self.assertEqual(never_met(arms=[[], [[LOT]], [[]], []]), [0, 2, 3])
        self.assertEqual(unmet(arms=[[], []]), "")
        self.assertEqual(unmet([[[LOT]], []]), None)
        self.assertEqual(unmet([[[]], [[ANY]], [[ANY, ANY, LOT]]]), None)
        self.assertEqual(unmet([[[]], [[of("\n}"), LOT]]]), "~")
        self.assertEqual(unmet([[[]], [[of(" ~"), LOT]]]), "\n")
        self.assertEqual(never_met([[parse("a*")], [parse("ab"), parse("b")], [parse("a?"), parse("aa")]]), [2])
        self.assertEqual(never_met([[parse("[a-m]")], [parse("[n-z]")], [parse("[a-z]")], [parse("[a-z0]")]]), [2])
        self.assertEqual(never_met([[[LOT]], [[]]]), [1])
        arms = [[[none_of("\n~")]], [parse("*"), parse("a")]]
        self.assertEqual(never_met(arms), [0])

    def test_shown_least(self):
        for pattern, shown in (
                ([], []), ([LOT, LOT], [LOT]), ([LOT, ANY, LOT, ANY], [ANY, ANY, LOT]), ([ANY, ANY], [ANY, ANY]),
                (parse("a*?b?*"), ones("a") + [ANY, LOT] + ones("b") + [ANY, LOT]), ([of("a")], ones("a")),
                ([of("a", "a")], ones("a")), ([of("ac", "b")], [of("ac")]), ([of("ac", "de")], [of("ae")]),
                ([of("x", "a", "b")], [of("ab", "x")]), ([of("ac", "bx")], [of("ax")]), ([of("#$", "&'")], [of("#'")]),
                ([of("\n", " ")], [of("\n ")]), ([of("\n~")], [ANY]), ([of("\nm", "n~")], [ANY]),
                ([none_of("\n~")], [none_of("\n~")]), ([none_of("\nm", "n~")], [none_of("\n~")]),
                ([none_of("b~", "\n`")], ones("a")), ([none_of("a")], [none_of("a")]), ([none_of("~")], [of("\n}")]),
                ([none_of("\n")], [of(" ~")]), ([of("\n`", "b~")], [none_of("a")]), ([none_of("a", "c")], [none_of("a", "c")]),
                ([none_of("\na")], [of("b~")]), ([of("\na", "z~")], [none_of("by")]), ([none_of("\n", "~")], [of(" }")]),
                ([of("\n", "~")], [none_of(" }")]), ([of("\nb", "dy")], [of("\nb", "dy")]), ([none_of("ac", "b")], [none_of("ac")]),
                ([of("\n~"), LOT, of("\n~"), of("a")], [ANY, ANY, LOT] + ones("a")),
                ([LOT, none_of("\n~"), LOT], [LOT, none_of("\n~"), LOT]), ([LOT] + ones("a"), [LOT] + ones("a"))):
            with self.subTest(pattern=pattern):
                self.assertEqual(shown_least(pattern), shown)
                self.assertEqual(shown_least(shown), shown)
                self.assertIs(same(pattern, shown), True)
        for seed in range(200):
            pattern = grown(seed, 6, "\n~" if seed % 2 else "#&")
            self.assertIs(same(pattern, shown_least(pattern=pattern)), True)

    def test_all_signs(self):
        for at, sign in enumerate(SIGNS):
            self.assertEqual(heads([("one", sign)], sign + "x"), [1])
            self.assertEqual(shown_least([none_of(sign)])[0][1], 0 < at < len(SIGNS) - 1)
            if at > 0:
                self.assertEqual(least_text([none_of("\n" + SIGNS[at - 1])]), sign)
                self.assertEqual(shown_least([of("\n" + SIGNS[at - 1], sign + "~")]), [ANY])

    def test_great_patterns(self):
        many = ("of", False, [(SIGNS[at], SIGNS[min(94, at + more)]) for at in range(95) for more in range(0, 40, 3)])
        odd = ("of", False, [(sign, sign) for sign in SIGNS[::2]])
        self.assertIs(same([LOT, many, LOT, many], [LOT, ANY, ANY]), True)
        self.assertEqual(first_apart([LOT, odd, LOT, odd, ANY, odd], [LOT, odd, LOT, odd, odd, ANY]), "\n\n\n ")
        self.assertIs(same([LOT, of("ab")] + [ANY] * 6, [LOT, of("ab", "a")] + [ANY] * 6), True)
        self.assertEqual(common([LOT, of("ab")] + [ANY] * 6, [LOT, of("bc")] + [ANY] * 6), "b" + "\n" * 6)

    def test_nothing_passed_is_changed_or_kept(self):
        pattern = [LOT, of("ac", "b"), ANY, none_of("\n~")]
        ahead = copy.deepcopy(pattern)
        shown = shown_least(pattern)
        self.assertEqual(set(lists_in(shown)) & set(lists_in(pattern)), set())
        self.assertEqual(len(lists_in(shown)), len(set(lists_in(shown))))
        for call in (same, within, first_apart, common):
            call(pattern, pattern)
        never_met([[pattern], [pattern]])
        unmet([[pattern], [pattern]])
        heads(pattern, "ab")
        tails(pattern, "ab")
        self.assertEqual(pattern, ahead)
        self.assertIsNot(shown_least([])[:], [])
        of_none = shown_least([none_of("\n~"), none_of("\n~")])
        self.assertIsNot(of_none[0][2], of_none[1][2])
