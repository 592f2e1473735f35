"""Trees of every kind, grown by chance, but the same in each run of the tests."""

import random

NAMES = ["x", "y1", "_z", "A", "if", "in", "SEP"]
PLACES = ["0", "1", "2", "10", "#", "?", "@", "*"]
BARES = ["a", "b", "0", "2", "if", "esac", "do", "in", "fi", "!", "*", "?", "[a]", "a-b", ".", "/x", "=", "x=1", "~", "1x", "[", "]"]
HELDS = ["", "a", "b c", "\n", "\"", "$x", "\\", "`", "E\n", "#", "{}", ";;", ")", "E"]
MARKS = [" ", "'", "\"", "\\", "$", "`", "#", "a", ";", "}", ")", "=", "2"]
PLAINS = ["a", " ", "'", "\"", "$", "\\", "`", "\n", "E\n", "#", "{", "}", "x", "0", ")", "\\\"", "b c"]


class Grower:
    def __init__(self, seed):
        self.random = random.Random(seed)

    def pick(self, things):
        return self.random.choice(things)

    def times(self, most):
        return range(self.random.randint(0, most))

    def sum(self, deep):
        kind = self.random.randint(0, 7) if deep > 0 else self.random.randint(0, 1)
        if kind == 0:
            return ("number", self.pick([0, 1, 2, 10, 34567, 10 ** 18]))
        if kind == 1:
            return ("of", self.pick(NAMES + [place for place in PLACES if place not in "@*"]))
        if kind == 2:
            return (self.pick(["minus", "no"]), self.sum(deep - 1))
        if kind == 3:
            return ("choose", self.sum(deep - 1), self.sum(deep - 1), self.sum(deep - 1))
        sign = self.pick(["*", "/", "^", "+", "-", "<", "<=", ">", ">=", "==", "!=", "&&", "||"])
        return (sign, self.sum(deep - 1), self.sum(deep - 1))

    def dollar(self, deep):
        kind = self.random.randint(0, 5) if deep > 0 else 0
        if kind == 0:
            return ("name", self.pick(NAMES + PLACES), self.pick([(), (), ("size",)]))
        if kind == 1:
            return ("sum", self.sum(3))
        if kind == 2:
            return ("run", self.script(deep - 1))
        if kind == 3:
            piece = ("name", self.pick(NAMES + PLACES), ("cut", self.pick(["#", "##", "^", "^^"]), self.pieces(deep - 1)))
        else:
            deed = self.pick(["lack", "set", "must", "other"])
            piece = ("name", self.pick(NAMES + PLACES), (deed, self.pick([True, False]), self.pieces(deep - 1)))
        if piece[1] == "#" and piece[2] in (("must", False, []), ("cut", "#", [])):
            return ("name", "#", ())
        return piece

    def wide(self, deep, last=None):
        pieces = []
        for _ in self.times(3):
            if pieces == [] or pieces[-1][0] != "plain":
                if self.random.random() < 0.5:
                    pieces.append(("plain", "".join(self.pick(PLAINS) for _ in range(self.random.randint(1, 3)))))
                    continue
            pieces.append(self.dollar(deep))
        if last is not None and pieces != []:
            if pieces[-1][0] == "plain":
                pieces[-1] = ("plain", pieces[-1][1] + last)
            else:
                pieces.append(("plain", last))
        return ("wide", pieces)

    def pieces(self, deep):
        pieces = []
        for _ in self.times(3):
            kind = self.random.randint(0, 4)
            if kind == 0 and (pieces == [] or pieces[-1][0] != "bare"):
                pieces.append(("bare", self.pick(BARES)))
            elif kind == 1:
                pieces.append(("held", self.pick(HELDS)))
            elif kind == 2:
                pieces.append(("mark", self.pick(MARKS)))
            elif kind == 3 and deep > 0:
                pieces.append(self.wide(deep - 1))
            else:
                pieces.append(self.dollar(deep))
        return pieces

    def word(self, deep):
        return self.pieces(deep) or [("bare", self.pick(BARES))]

    def turn(self, deep):
        number = self.random.randint(0, 2)
        mark = self.pick(["<", ">", ">>", ">&", "<<"])
        if mark == ">&":
            return (number, mark, [("bare", self.pick(["0", "1", "2", "-"]))])
        if mark == "<<" and self.random.random() < 0.5:
            return (number, mark, [("held", self.pick(["", "a'\n", "E\n", "E\nEE\n", "$x `\"\n"]))])
        if mark == "<<":
            return (number, mark, [self.wide(deep, "\n")])
        return (number, mark, self.word(deep))

    def turns(self, deep):
        return [self.turn(deep) for _ in self.times(2)] if self.random.random() < 0.4 else []

    def do(self, deep):
        sets = [(self.pick(NAMES), self.pieces(deep)) for _ in self.times(2)] if self.random.random() < 0.3 else []
        words = [self.word(deep) for _ in self.times(3)]
        turns = self.turns(deep)
        if words != [] and words[0][0][0] == "bare":
            first = words[0][0][1]
            if first == "x=1" or (sets == [] and len(words[0]) == 1 and first in ("if", "esac", "do", "in", "fi", "!")):
                words[0] = [("bare", "a")]
        if not (sets or words or turns):
            words = [[("bare", "a")]]
        return ("do", sets, words, turns)

    def full(self, deep):
        return [self.command(deep) for _ in range(self.random.randint(1, 2))]

    def script(self, deep):
        return [self.command(deep) for _ in self.times(2)]

    def block(self, deep):
        kind = self.random.randint(0, 5)
        if kind == 0:
            return (self.pick(["group", "apart"]), self.full(deep), self.turns(deep))
        if kind == 1:
            arms = [(self.full(deep), self.full(deep)) for _ in range(self.random.randint(1, 2))]
            return ("if", arms, self.pick([None, self.full(deep)]), self.turns(deep))
        if kind == 2:
            return (self.pick(["while", "until"]), self.full(deep), self.full(deep), self.turns(deep))
        if kind == 3:
            words = self.pick([None, [self.word(deep) for _ in self.times(2)]])
            return ("each", self.pick(NAMES), words, self.full(deep), self.turns(deep))
        arms = []
        for _ in self.times(3):
            words = [self.word(deep) for _ in range(self.random.randint(1, 2))]
            if words[0] == [("bare", "esac")]:
                words[0] = [("bare", "*")]
            arms.append((words, self.script(deep)))
        return ("case", self.word(deep), arms, self.turns(deep))

    def piped(self, deep):
        kind = self.random.randint(0, 5) if deep > 0 else 0
        if kind < 3:
            return self.do(deep)
        if kind == 3:
            return ("make", self.pick(["f", "x", "_g1"]), self.block(deep - 1))
        return self.block(deep - 1)

    def turned(self, deep):
        kind = self.random.randint(0, 5)
        if kind == 0:
            return ("pipe", [self.piped(deep) for _ in range(self.random.randint(2, 3))])
        if kind == 1:
            return ("not", self.pick([self.piped(deep), ("pipe", [self.piped(deep), self.piped(deep)])]))
        return self.piped(deep)

    def command(self, deep):
        if deep > 0 and self.random.random() < 0.15:
            return (self.pick(["and", "or"]), self.command(deep - 1), self.turned(deep - 1))
        return self.turned(deep)
