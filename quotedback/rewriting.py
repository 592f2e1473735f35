"""Scripts rewritten, from the outer commands to the inner ones, with the places at which something was done."""

from quotedback.commands import LISTS, NOT_PIPED, NOT_TURNED_ABOUT

NOT_MADE = ("do", "make", "pipe", "not", "and", "or")


class Rewriter:
    """Rewrites nothing by itself; what it is told of stands at paths in the script ahead.

    `barred` are everywhere the kinds of commands that may not stand in the place of a command.
    """

    def __init__(self):
        self.places = []

    def note(self, path):
        if path not in self.places:
            self.places.append(path)

    def script(self, script, path):
        return self.row([(path + [at], command) for at, command in enumerate(script)])

    def row(self, told):
        """Returns the script of some tuples (path, command)."""
        return [self.command(command, path, ()) for path, command in told]

    def command(self, command, path, barred):
        """Returns the command that stands in the place of one."""
        return self.with_parts(command, path)

    def with_parts(self, command, path):
        """Returns a command with what stands in it rewritten."""
        match command:
            case ("do", sets, words, turns):
                told = [(name, self.set_word(word, path, [1, at, 1])) for at, (name, word) in enumerate(sets)]
                return ("do", told, self.words(words, path, [2]), self.turns(turns, path, [3]))
            case ("make", made, body):
                return ("make", made, self.command(body, path + [2], NOT_MADE))
            case ("pipe", commands):
                return self.pipe(list(enumerate(commands)), path)
            case ("not", part):
                return ("not", self.command(part, path + [1], NOT_TURNED_ABOUT))
            case ("and" | "or", one, other):
                return (command[0], self.command(one, path + [1], ()), self.command(other, path + [2], LISTS))
        return self.with_block(command, path)

    def pipe(self, told, path):
        """Returns a pipe, told by the tuples (index, command) of its commands."""
        return self.with_sides(told, path)

    def with_sides(self, told, path):
        return ("pipe", [self.command(command, path + [1, at], NOT_PIPED) for at, command in told])

    def with_block(self, command, path):
        turns = self.turns(command[-1], path, [len(command) - 1])
        match command:
            case ("group" | "apart", script, _):
                return (command[0], self.script(script, path + [1]), turns)
            case ("if", arms, other, _):
                told = self.if_arms(list(enumerate(arms)), path)
                return ("if", told, None if other is None else self.script(other, path + [2]), turns)
            case ("while" | "until", test, script, _):
                return (command[0], self.script(test, path + [1]), self.script(script, path + [2]), turns)
            case ("each", name, words, script, _):
                told = None if words is None else self.words(words, path, [2])
                return ("each", name, told, self.script(script, path + [3]), turns)
            case ("case", word, arms, _):
                return ("case", self.word(word, path, [1]), self.case_arms(arms, path), turns)

    def if_arms(self, told, path):
        """Returns the arms of some tuples (index, arm)."""
        found = []
        for at, (test, script) in told:
            way = path + [1, at]
            found.append((self.script(test, way + [0]), self.script(script, way + [1])))
        return found

    def case_arms(self, arms, path):
        found = []
        for at, (words, script) in enumerate(arms):
            found.append((self.words(words, path, [2, at, 0]), self.script(script, path + [2, at, 1])))
        return found

    def turns(self, turns, path, way):
        found = []
        for at, (number, mark, word) in enumerate(turns):
            found.append((number, mark, self.word(word, path, way + [at, 2])))
        return found

    def words(self, words, path, way):
        return [self.word(word, path, way + [at]) for at, word in enumerate(words)]

    def word(self, pieces, path, way):
        """Returns the pieces, outside of double quotes, that stand at a way within the command at a path."""
        return self.with_pieces(pieces, path, way)

    def set_word(self, pieces, path, way):
        """Returns the word of a set."""
        return self.word(pieces, path, way)

    def wide(self, pieces, path, way):
        """Returns the pieces between double quotes."""
        return self.with_pieces(pieces, path, way)

    def with_pieces(self, pieces, path, way):
        return [self.piece(piece, path, way + [at]) for at, piece in enumerate(pieces)]

    def piece(self, piece, path, way):
        return self.with_inner(piece, path, way)

    def with_inner(self, piece, path, way):
        """Returns a piece with what stands in it rewritten."""
        match piece:
            case ("wide", inner):
                return ("wide", self.wide(inner, path, way + [1]))
            case ("name", name, (kind, told, word)):
                return ("name", name, (kind, told, self.word(word, path, way + [2, 2])))
            case ("run", script):
                return ("run", self.script(script, path + way + [1]))
        return piece


def rewritten(rewriter, script):
    """Returns what a rewriter makes of a script, and the ascending list of the places."""
    told = rewriter.script(script, [])
    return told, sorted(rewriter.places)
