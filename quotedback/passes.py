"""The passes of scripts, each a rewriter of its own."""

from quotedback.filters import LINE_BY_LINE, filter_of, least_indexes
from quotedback.names import ALL_ARGUMENTS
from quotedback.rewriting import Rewriter
from quotedback.rooms import is_status
from quotedback.sums import is_integer, is_steady, worked_out
from quotedback.surewords import sure_piece_text

TRUE_NAMES = ("true", ":")
FALSE_NAMES = ("false",)
MOST_FILTERS = 5
MOST_TUPLES = 8
MOST_TUPLES_OF_ONE = 4
MOST_OF_FIRST = 3


class WordFolder(Rewriter):
    """Puts numbers for steady sums, and one held piece for held signs side by side."""

    def word(self, pieces, path, way):
        return self.with_one_held(self.with_pieces(pieces, path, way), path)

    def set_word(self, pieces, path, way):
        return self.with_one_held(self.with_numbers(self.with_pieces(pieces, path, way), "held", path), path)

    def wide(self, pieces, path, way):
        found = []
        for piece in self.with_numbers(self.with_pieces(pieces, path, way), "plain", path):
            if found != [] and found[-1][0] == "plain" and piece[0] == "plain":
                found[-1] = ("plain", found[-1][1] + piece[1])
            else:
                found.append(piece)
        return found

    def with_numbers(self, pieces, kind, path):
        """Returns the pieces with the number of each steady sum as a piece of a kind."""
        found = []
        for piece in pieces:
            if piece[0] == "sum" and is_steady(piece[1]):
                self.note(path)
                found.append((kind, str(worked_out(piece[1], {}, []))))
            else:
                found.append(piece)
        return found

    def with_one_held(self, pieces, path):
        found = []
        for piece in pieces:
            if found != [] and is_held(found[-1]) and is_held(piece):
                self.note(path)
                found[-1] = ("held", found[-1][1] + piece[1])
            else:
                found.append(piece)
        return found


def is_held(piece):
    return piece[0] == "held" or (piece[0] == "mark" and piece[1] != "'")


class DeadEnds(Rewriter):
    """Leaves out what is never done."""

    def row(self, told):
        for at, (path, command) in enumerate(told):
            if is_end(command) and at + 1 < len(told):
                self.note(path)
                return self.row(told[:at + 1])
        return [self.command(command, path, ()) for path, command in told]

    def command(self, command, path, barred):
        match command:
            case ("if", arms, other, []):
                if is_just(arms[0][0], FALSE_NAMES):
                    self.note(path)
                    return self.behind_false(arms, other, path)
                for at, arm in enumerate(arms):
                    if is_just(arm[0], TRUE_NAMES):
                        self.note(path)
                        return self.up_to_true(arms, at, path)
            case ("while" | "until", test, _, []):
                if is_just(test, FALSE_NAMES if command[0] == "while" else TRUE_NAMES) and "do" not in barred:
                    self.note(path)
                    return nothing()
        return self.with_parts(command, path)

    def behind_false(self, arms, other, path):
        """Returns what stands in the place of an "if" whose first arm is never done."""
        told = self.script(arms[0][0], path + [1, 0, 0])
        rest = None if other is None else self.script(other, path + [2])
        if len(arms) > 1:
            return ("group", told + [("if", self.if_arms(list(enumerate(arms))[1:], path), rest, [])], [])
        return ("group", told + ([nothing()] if rest is None else rest), [])

    def up_to_true(self, arms, last, path):
        """Returns what stands in the place of an "if" behind one of whose arms nothing is done."""
        way = path + [1, last]
        told = self.script(arms[last][0], way + [0]) + self.script(arms[last][1], way + [1])
        if last == 0:
            return ("group", told, [])
        return ("if", self.if_arms(list(enumerate(arms))[:last], path), told, [])


def nothing():
    """Returns a command that does nothing and gives 0."""
    return ("do", [], [[("bare", ":")]], [])


def is_just(script, names):
    """Tells whether a script is just one "do" of one of some names."""
    return len(script) == 1 and bare_texts(script[0]) in [[name] for name in names]


def bare_texts(command):
    """Returns the texts of the words of a "do" that are all bare, `None` of a command that is no such one."""
    match command:
        case ("do", [], words, []):
            if all([len(word) == 1 and word[0][0] == "bare" for word in words]):
                return [word[0][1] for word in words]
    return None


def is_end(command):
    """Tells whether a command is a `return` or `exit` behind which nothing is done."""
    match bare_texts(command):
        case ["exit" | "return"]:
            return True
        case ["exit" | "return", text]:
            return is_status_text(text)
    return False


def is_status_text(text):
    return is_integer(text) and len(text) <= 3 and is_status(int(text))


class Unquoter(Rewriter):
    """Takes quotes away that are not needed."""

    def piece(self, piece, path, way):
        match piece:
            case ("wide", [("plain", text)]):
                if "'" not in text:
                    self.note(path)
                    return ("held", text)
        return self.with_inner(piece, path, way)

    def set_word(self, pieces, path, way):
        found = []
        for at, piece in enumerate(pieces):
            match piece:
                case ("wide", [("name", name, () | ("size",))]) if name not in ALL_ARGUMENTS:
                    self.note(path)
                    found.append(piece[1][0])
                case _:
                    found.append(self.piece(piece, path, way + [at]))
        return found


class Fuser(Rewriter):
    """Leaves out filters that others do the work of, and groups of one command."""

    def command(self, command, path, barred):
        match command:
            case ("group", [inner], []) if inner[0] not in barred:
                self.note(path)
                return self.command(inner, path + [1, 0], barred)
        return self.with_parts(command, path)

    def pipe(self, told, path):
        kept = kept_sides([command for _, command in told])
        if len(kept) < len(told):
            self.note(path)
        return self.with_sides([told[at] for at in kept], path)


def kept_sides(commands):
    """Returns the ascending list of the indexes of the commands of a pipe that are needed."""
    kept = []
    row = []
    for at, command in enumerate(commands):
        one = filter_by_words(command) if 0 < at < len(commands) - 1 else None
        if one is None:
            kept.extend(kept_filters(row))
            kept.append(at)
            row = []
        else:
            row.append((at, one))
    return kept


def kept_filters(told):
    """Returns the indexes that are needed of some tuples (index, filter) of filters side by side."""
    row = [one for _, one in told]
    many = sum([len(one[1]) for one in row if one[0] in ("keep", "drop")])
    kept = list(range(len(row)))
    if len(row) <= MOST_FILTERS and many <= MOST_TUPLES:
        # Some command has to stand there.
        kept = least_indexes(row) or kept
    return [told[at][0] for at in kept]


def filter_by_words(command):
    """Returns the filter that a command is by its words, `None` if it is none, or too great."""
    match command:
        case ("do", [], words, []):
            fields = [plain_text(word) for word in words]
            one = None if None in fields else filter_of(fields)
            return one if one is not None and one[0] in LINE_BY_LINE and is_small(one) else None
    return None


def is_small(one):
    if one[0] == "first":
        return one[1] <= MOST_OF_FIRST
    return one[0] == "swap" or len(one[1]) <= MOST_TUPLES_OF_ONE


def plain_text(word):
    """Returns the text of a word of one piece that is plainly this text, `None` of another one."""
    match word:
        case [("wide", [("plain", text)])]:
            return text
        case [("bare" | "held" | "mark", _)]:
            return sure_piece_text(word[0])
    return None
