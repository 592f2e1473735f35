"""Scripts that do something, and worlds for them, grown by chance, but the same in each run of the tests."""

import random

from tests.building import bare

NAMES = ["x", "y", "z", "SEP"]
FILES = ["a", "b", "d", "d/e", "d/f", "/a", "/d/f", "n", "n/m", "..", "d/..", "/", ""]
FUNCTIONS = ["f", "g"]
TEXTS = ["", "a", "b", "a b", "x:y", "ab\n", "b\na\nab\n", "3", "-1", "*", "a b\nc", ": :"]


class RunGrower:
    def __init__(self, seed):
        self.random = random.Random(seed)

    def pick(self, things):
        return self.random.choice(things)

    def chance(self, part):
        return self.random.random() < part

    def times(self, most):
        return range(self.random.randint(0, most))

    def world(self):
        files = {}
        for path, text in (("/a", self.pick(TEXTS)), ("/b", self.pick(TEXTS)), ("/d", None), ("/d/e", None), ("/d/f", self.pick(TEXTS))):
            if self.chance(0.8) and (path.count("/") == 1 or "/d" in files):
                files[path] = text
        folder = self.pick(["/"] + [path for path in files if files[path] is None])
        names = {name: self.pick(TEXTS) for name in NAMES if self.chance(0.5 if name != "SEP" else 0.1)}
        functions = {name: self.block(1) for name in FUNCTIONS if self.chance(0.4)}
        return (files, folder, names, [self.pick(TEXTS) for _ in self.times(3)], "me", self.pick([0, 0, 1, 7]), functions)

    def text(self):
        return self.pick(TEXTS + ["p\nq\nr\ns\n"])

    def sum(self):
        return self.pick([("number", 2), ("of", "x"), ("+", ("of", "y"), ("number", 1)), ("/", ("number", 4), ("of", "z")),
                          ("of", "?"), ("of", "#"), ("<", ("of", "#"), ("number", 2)), ("*", ("number", 3), ("minus", ("number", 2)))])

    def dollar(self, deep):
        kind = self.random.randint(0, 8)
        name = self.pick(NAMES + ["1", "2", "#", "?", "@", "*", "0"])
        if kind < 3 or deep == 0:
            return ("name", name, self.pick([(), (), (), ("size",)]))
        if kind == 3:
            return ("sum", self.sum())
        if kind in (4, 5):
            return ("run", self.script(deep - 1))
        if kind == 6:
            return ("name", name, ("cut", self.pick(["#", "##", "^", "^^"]), self.pieces(deep - 1)))
        deed = self.pick(["lack", "set", "set", "other"] if self.chance(0.9) else ["must"])
        if deed == "set" and self.chance(0.9):
            name = self.pick(NAMES)
        return ("name", name, (deed, self.pick([True, False]), self.pieces(deep - 1) if deed != "must" else bare("gone")))

    def pieces(self, deep):
        pieces = []
        for _ in self.times(2):
            kind = self.random.randint(0, 5)
            if kind < 2 and (pieces == [] or pieces[-1][0] != "bare"):
                pieces.append(("bare", self.pick(["a", "b", "d", "*", "a*", "?", "1", "d/*", "-n", "x:y"])))
            elif kind == 2:
                pieces.append(self.pick([("held", self.pick(["", "a b", "*", "a"])), ("mark", " ")]))
            elif kind == 3 and deep > 0:
                pieces.append(("wide", self.wide(deep - 1)))
            else:
                pieces.append(self.dollar(deep))
        return pieces

    def wide(self, deep):
        pieces = []
        for _ in self.times(2):
            if self.chance(0.4) and (pieces == [] or pieces[-1][0] != "plain"):
                pieces.append(("plain", self.pick(["a", " ", "b'c", "*"])))
            else:
                pieces.append(self.dollar(deep))
        return pieces

    def word(self, deep):
        return self.pieces(deep) or bare(self.pick(["a", "b", "x"]))

    def path(self, deep):
        if self.chance(0.15):
            return self.word(deep)
        text = self.pick(FILES)
        return bare(text) if text != "" else [("held", "")]

    def do(self, deep):
        row = self.pick([
            ["echo", "w"], ["echo", "w", "w"], ["echo", "w"], ["read", "n"], ["read", "n"], ["set", "w", "w"], ["shift"], ["unset", "n"], ["cd", "p"], ["cd"],
            ["pwd"], ["test", "w", "=", "w"], ["test", "-f", "p"], ["test", "-d", "p"], ["test", "w"], ["true"], ["false"], [":"], ["true"], ["false"], ["break"],
            ["continue"], ["break", "2"], ["continue", "2"], ["return"], ["return", "3"], ["exit"], ["exit", "4"], ["cat"], ["cat", "p"],
            ["keep", "w"], ["first", "1"], ["first", "2"], ["last", "1"], ["order"], ["once"], ["count"], ["number"], ["swap", "ab", "ba"],
            ["part", "2", ":"], ["tee", "p"], ["make", "p"], ["remove", "p"], ["move", "p", "p"], ["copy", "p", "p"], ["list"], ["list", "p"],
            ["f", "w"], ["g"], ["f"], ["nix"], ["w"], ["w", "w"], [], [], ["cat"], ["cat", "p", "p"], ["drop", "w"],
        ])
        words = []
        for told in row:
            if told == "w":
                words.append(self.word(deep))
            elif told == "p":
                words.append(self.path(deep))
            elif told == "n":
                words.append(bare(self.pick(NAMES[:3])))
            else:
                words.append(bare(told))
        sets = [(self.pick(NAMES if self.chance(0.1) else NAMES[:3]), self.pieces(deep)) for _ in self.times(2)] if row == [] or self.chance(0.2) else []
        turns = self.turns(deep) if self.chance(0.25) else []
        if sets == words == turns == []:
            sets = [("x", self.pieces(deep))]
        return ("do", sets, words, turns)

    def turns(self, deep):
        return [self.turn(deep) for _ in range(self.random.randint(1, 2))]

    def turn(self, deep):
        number = self.pick([0, 0, 1, 1, 1, 2])
        mark = self.pick(["<", ">", ">>", ">&", "<<"] if number > 0 else ["<", "<", "<<", ">&", ">"])
        if mark == ">&":
            return (number, mark, bare(self.pick(["0", "1", "2", "-"])))
        if mark == "<<":
            here = ("wide", self.wide(deep) + [("plain", "e\n")]) if self.chance(0.5) else ("held", "p\nq\n")
            if here[0] == "wide" and len(here[1]) > 1 and here[1][-2][0] == "plain":
                here = ("wide", [("plain", "e\n")])
            return (number, mark, [here])
        return (number, mark, self.path(deep))

    def full(self, deep):
        return [self.command(deep) for _ in range(self.random.randint(1, 3))]

    def script(self, deep):
        return [self.command(deep) for _ in self.times(3)]

    def block(self, deep):
        kind = self.random.randint(0, 6)
        turns = self.turns(deep) if self.chance(0.2) else []
        if kind == 0:
            return (self.pick(["group", "apart"]), self.full(deep), turns)
        if kind in (1, 2):
            arms = [(self.full(deep), self.full(deep)) for _ in range(self.random.randint(1, 2))]
            return ("if", arms, self.pick([None, self.full(deep)]), turns)
        if kind == 3:
            test = self.pick([[("do", [], [bare("read"), bare("x")], [])], self.full(deep)])
            return (self.pick(["while", "until"]), test, self.full(deep), turns)
        if kind == 4:
            words = self.pick([None, [self.word(deep) for _ in self.times(3)]])
            return ("each", self.pick(NAMES[:3]), words, self.full(deep), turns)
        if kind == 5:
            arms = [([self.word(deep) for _ in range(self.random.randint(1, 2))], self.script(deep)) for _ in self.times(3)]
            return ("case", self.word(deep), arms, turns)
        return ("apart", self.full(deep), turns)

    def piped(self, deep):
        if deep == 0 or self.chance(0.55):
            return self.do(deep)
        if self.chance(0.15):
            return ("make", self.pick(FUNCTIONS), self.block(deep - 1))
        return self.block(deep - 1)

    def turned(self, deep):
        kind = self.random.randint(0, 7)
        if kind == 0:
            return ("pipe", [self.piped(deep) for _ in range(self.random.randint(2, 3))])
        if kind == 1:
            return ("not", self.pick([self.piped(deep), ("pipe", [self.piped(deep), self.piped(deep)])]))
        return self.piped(deep)

    def command(self, deep):
        if deep > 0 and self.chance(0.15):
            return (self.pick(["and", "or"]), self.turned(deep - 1), self.turned(deep - 1))
        return self.turned(deep)
