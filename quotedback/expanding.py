"""Words expanded to signs, piece by piece, with the names as they are set on the way."""

from quotedback.copies import fresh
from quotedback.errors import Refused, Wanted
from quotedback.names import ALL_ARGUMENTS, is_name
from quotedback.patterns import heads, pattern_of, tails
from quotedback.rooms import USUAL_SEP
from quotedback.sums import worked_out

CUT = ("", "cut")
EMPTY = ("", "firm")


class Expansion:
    """What there is to be looked at by the words that are expanded, one behind the other."""

    def __init__(self, room, answers):
        self.names = dict(room[0])
        self.arguments = list(room[1])
        self.title = room[2]
        self.status = room[3]
        self.answers = answers
        self.asked = 0

    def told_arguments(self):
        return self.arguments

    def separators(self):
        return self.names.get("SEP", USUAL_SEP)

    def value_of(self, name):
        """Returns the text of a name or place, `None` if it is not set."""
        if is_name(name):
            return self.names.get(name)
        if name == "0":
            return self.title
        if name == "#":
            return str(len(self.told_arguments()))
        if name == "?":
            return str(self.status)
        return self.argument(int(name))

    def argument(self, place):
        arguments = self.told_arguments()
        return arguments[place - 1] if place <= len(arguments) else None

    def is_lacking(self, name, empty):
        if name in ALL_ARGUMENTS:
            return self.told_arguments() == []
        text = self.value_of(name)
        return text is None or (empty and text == "")

    def length(self, name):
        """Returns the text of the number that the "size" of a name or place is."""
        if name in ALL_ARGUMENTS:
            return str(len(self.told_arguments()))
        return str(len(self.value_of(name) or ""))

    def number(self, tree):
        """Returns the text of the number of a sum."""
        names = dict(self.names)
        for place in ("0", "#", "?"):
            names[place] = self.value_of(place)
        return str(worked_out(tree, names, self.arguments))

    def written(self, script):
        """Returns what the next script of a "run" writes."""
        if self.asked == len(self.answers):
            raise Wanted((fresh(script), dict(self.names)))
        self.asked += 1
        return self.answers[self.asked - 1].rstrip("\n")

    def cut_text(self, text, mark, pattern):
        """Returns a text without the beginning or the end that a pattern lets by."""
        lengths = heads(pattern, text) if mark[0] == "#" else tails(pattern, text)
        if lengths == []:
            return text
        length = lengths[0] if len(mark) == 1 else lengths[-1]
        return text[length:] if mark[0] == "#" else text[:len(text) - length]

    def signs_of(self, pieces, is_wide):
        """Returns the tuples (sign, mark) of pieces, all firm within a "wide"."""
        found = []
        for piece in pieces:
            found.extend(self.piece_signs(piece, is_wide))
        return found

    def piece_signs(self, piece, is_wide):
        match piece:
            case ("bare", text):
                return marked(text, "firm" if is_wide else "bare")
            case ("plain" | "mark", text):
                return marked(text, "firm")
            case ("held", text):
                return marked(text, "firm") or [EMPTY]
            case ("wide", pieces):
                return self.wide_signs(pieces)
            case ("sum", tree):
                return marked(self.number(tree), value_mark(is_wide))
            case ("run", script):
                return marked(self.written(script), value_mark(is_wide))
            case ("name", name, deed):
                return self.name_signs(name, deed, is_wide)

    def wide_signs(self, pieces):
        found = self.signs_of(pieces, True)
        if found != [] or (pieces != [] and all([is_all(piece) for piece in pieces]) and self.told_arguments() == []):
            return found
        return [EMPTY]

    def name_signs(self, name, deed, is_wide):
        match deed:
            case ("size",):
                return marked(self.length(name), value_mark(is_wide))
            case ("lack", empty, word):
                return self.signs_of(word, is_wide) if self.is_lacking(name, empty) else self.value_signs(name, is_wide)
            case ("other", empty, word):
                return [] if self.is_lacking(name, empty) else self.signs_of(word, is_wide)
            case ("set" | "must", empty, word):
                if self.is_lacking(name, empty):
                    return self.lacking_signs(name, deed[0], word, is_wide)
            case ("cut", mark, word):
                return self.cut_signs(name, mark, word, is_wide)
        return self.value_signs(name, is_wide)

    def lacking_signs(self, name, kind, word, is_wide):
        """Sets a name that lacks to its word, or refuses it."""
        if kind == "set" and not is_name(name):
            raise Refused((name, ""))
        signs = self.signs_of(word, is_wide)
        if kind == "must":
            raise Refused((name, joined_text(signs)))
        self.set_name(name, joined_text(signs))
        return signs

    def set_name(self, name, text):
        self.names[name] = text

    def value_signs(self, name, is_wide):
        if name in ALL_ARGUMENTS:
            return self.texts_signs(name, self.told_arguments(), is_wide)
        return marked(self.value_of(name) or "", value_mark(is_wide))

    def texts_signs(self, name, texts, is_wide):
        """Returns the signs of the texts of all arguments, as `@` or `*` puts them together."""
        if name == "*" and is_wide:
            return marked(self.separators()[:1].join(texts), "firm")
        found = []
        for at, text in enumerate(texts):
            if at > 0:
                found.append(CUT)
            found.extend(marked(text, value_mark(is_wide)))
            if text == "" and is_wide:
                found.append(EMPTY)
        return found

    def cut_signs(self, name, mark, word, is_wide):
        # The value is that ahead of the word, which may set names; the word is looked at once in any case.
        texts = list(self.told_arguments()) if name in ALL_ARGUMENTS else [self.value_of(name) or ""]
        pattern = joined_pattern(self.signs_of(word, False))
        cut = [self.cut_text(text, mark, pattern) for text in texts]
        if name in ALL_ARGUMENTS:
            return self.texts_signs(name, cut, is_wide)
        return marked(cut[0], value_mark(is_wide))


def marked(text, mark):
    return [(sign, mark) for sign in text]


def value_mark(is_wide):
    return "firm" if is_wide else "loose"


def is_all(piece):
    return piece[0] == "name" and piece[1] == "@"


def joined_text(signs):
    """Returns the text of all signs, a space for each cut."""
    return "".join([" " if mark == "cut" else sign for sign, mark in signs])


def joined_pattern(signs):
    return pattern_of([(" ", "loose") if mark == "cut" else (sign, mark) for sign, mark in signs])
