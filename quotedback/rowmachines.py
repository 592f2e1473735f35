"""Rows of filters that take each line by itself, or the first ones: what they make of all lists of lines.

A line passes or does not pass each pattern of a row; what the filters ahead have put for its signs is reckoned into
the patterns. So lines that pass the same patterns, and come to unlike lines or not, are told apart no further.
"""

from quotedback.machines import Machine
from quotedback.signsets import LINE_SIGNS, SIGNS, piece_of, set_of


class RowMachine:
    """A row of filters: its steps, its patterns, what it makes of each sign, and how many lines its "first" let by.

    A step is a tuple ("keep", at) or ("drop", at) of a pattern, or ("first", at) of a number of `numbers`.
    """

    def __init__(self, row):
        self.steps = []
        self.patterns = []
        self.numbers = []
        self.signs = list(SIGNS)
        for one in row:
            self.add_filter(one)

    def add_filter(self, one):
        match one:
            case ("keep" | "drop", pattern):
                self.steps.append((one[0], len(self.patterns)))
                self.patterns.append([self.piece_ahead(piece) for piece in pattern])
            case ("first", number):
                self.steps.append((one[0], len(self.numbers)))
                self.numbers.append(number)
            case ("swap", pairs):
                table = dict(pairs)
                self.signs = [table.get(sign, sign) for sign in self.signs]

    def piece_ahead(self, piece):
        """Returns the tuple that lets by what comes to the signs that a tuple lets by."""
        if piece in (("lot",), ("any",)):
            return piece
        signs = set_of(piece)
        ahead = [at for at, sign in enumerate(self.signs) if signs & (1 << SIGNS.index(sign)) != 0]
        return piece_of(sum([1 << at for at in ahead]))

    def passes(self, truths, counts):
        """Tells whether a line is written, and how many lines each "first" lets by behind it.

        `truths` tells for each pattern whether it lets the line by; `counts` are those ahead of it.
        """
        left = list(counts)
        for kind, at in self.steps:
            if kind == "first":
                if left[at] == 0:
                    return False, tuple(left)
                left[at] -= 1
            elif truths[at] != (kind == "keep"):
                return False, tuple(left)
        return True, tuple(left)


def unlike_signs(one, other):
    """Returns the pattern of the lines that two rows put unlike signs for."""
    unlike = [at for at, sign in enumerate(one.signs) if at > 0 and sign != other.signs[at]]
    return [("lot",), piece_of(sum([1 << at for at in unlike])), ("lot",)]


def truths_at(machine, standing, start, stop):
    return tuple([machine.lets(standing, at) for at in range(start, stop)])


def kinds_of_lines(one, other):
    """Returns the tuples (line, truths of the one, of the other one, unlike) of each kind of lines, by its first line.

    They ascend by length and then as texts.
    """
    patterns = one.patterns + other.patterns + [unlike_signs(one, other)]
    machine = Machine(patterns)
    middle = len(one.patterns)
    found = {}
    for standing, text in machine.standings(LINE_SIGNS):
        truths = truths_at(machine, standing, 0, len(patterns))
        if truths not in found:
            found[truths] = (text, truths[:middle], truths[middle:-1], truths[-1])
    return list(found.values())


def first_unlike(one, other):
    """Returns the first list of lines for which two rows do not write the same, `None` if there is none."""
    one, other = RowMachine(one), RowMachine(other)
    kinds = kinds_of_lines(one, other)
    start = (tuple(one.numbers), tuple(other.numbers))
    seen = {start: True}
    waiting = [(start, [])]
    while waiting:
        longer = []
        for (here, there), lines in waiting:
            for line, truths, other_truths, unlike in kinds:
                is_written, here_behind = one.passes(truths, here)
                is_written_there, there_behind = other.passes(other_truths, there)
                if is_written != is_written_there or (is_written and unlike):
                    return lines + [line]
                behind = (here_behind, there_behind)
                if behind not in seen:
                    seen[behind] = True
                    longer.append((behind, lines + [line]))
        waiting = longer
    return None


def writes_nothing(row):
    told = RowMachine(row)
    machine = Machine(told.patterns)
    for standing, _ in machine.standings(LINE_SIGNS):
        is_written, _ = told.passes(truths_at(machine, standing, 0, len(told.patterns)), told.numbers)
        if is_written:
            return False
    return True


def first_source(row, lines):
    """Returns the first list of lines of which a row writes some lines, `None` if there is none."""
    told = RowMachine(row)
    if any([number < len(lines) for number in told.numbers]):
        return None
    # Lines that are not written only use up what a "first" lets by.
    found = [line_source(told, line) for line in lines]
    return None if None in found else found


def line_source(told, line):
    """Returns the first line of which a row writes a line, `None` if there is none."""
    machine = Machine(told.patterns)
    waiting = {machine.start: ""}
    for sign in line:
        steps = [SIGNS[at] for at, put in enumerate(told.signs) if at > 0 and put == sign]
        longer = {}
        # In the order of their texts, so that the first one that comes to stand so is the least one.
        for standing, ahead in waiting.items():
            for step in steps:
                longer.setdefault(machine.stepped(standing, machine.mask_of(step)), ahead + step)
        waiting = longer
    for standing, ahead in waiting.items():
        is_written, _ = told.passes(truths_at(machine, standing, 0, len(told.patterns)), [1 for _ in told.numbers])
        if is_written:
            return ahead
    return None
