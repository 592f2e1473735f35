"""The cells of nets: which ones there are, and what each does with the lines that it reads."""

from quotedback.filters import is_line_sign, is_row
from quotedback.filterwork import swapped
from quotedback.machines import Machine

# How many roads in and out a cell of a kind has; all others are filters.
DEGREES = {"take": (0, 1), "fork": (1, 2), "turn": (2, 1), "zip": (2, 1), "keep all": (1, 0)}
FILTER_DEGREES = (1, 1)
FILTERS = ("keep", "drop", "swap", "first", "once", "number")


def is_cell(told):
    match told:
        case ("take", lines):
            return isinstance(lines, list) and all([isinstance(line, str) and "\n" not in line for line in lines])
        case ("fork",) | ("turn",) | ("keep all",):
            return True
        case ("zip", sign):
            return is_line_sign(sign)
    return told[:1] != () and told[0] in FILTERS and is_row([told])


def degrees_of(told):
    return DEGREES.get(told[0], FILTER_DEGREES)


class Cell:
    """A cell at its moves; roads in and out are told by their places among those of the cell.

    `to_write` has tuples (out, line) of what it has in hand; `turn` is the road in whose turn it is.
    """

    def __init__(self, told):
        self.kind = told[0]
        self.told = told
        self.machine = Machine([told[1]]) if self.kind in ("keep", "drop") else None
        self.to_write = [(0, line) for line in told[1]] if self.kind == "take" else []
        self.turn = 0
        self.many = 0
        self.lines = []
        self.is_ended = False

    def wants_none(self):
        """Tells whether it wants to read nothing more."""
        return self.kind == "take" or (self.kind == "first" and self.many == self.told[1])

    def take_in(self, line, road):
        """Takes a line that it has read, and what comes of it in hand."""
        self.many += 1
        match self.kind:
            case "fork":
                self.to_write = [(0, line), (1, line)]
            case "turn":
                self.turn = 1 - road
                self.to_write = [(0, line)]
            case "zip":
                self.turn = 1 - road
                if road == 0:
                    self.lines = [line]
                else:
                    self.to_write = [(0, self.lines[0] + self.told[1] + line)]
            case "keep all":
                self.lines.append(line)
            case _:
                self.to_write = [(0, told) for told in self.filtered(line)]

    def filtered(self, line):
        """Returns the list, with one line at most, of what a filter makes of a line."""
        match self.kind:
            case "keep":
                return [line] if self.machine.lets_by(line) else []
            case "drop":
                return [] if self.machine.lets_by(line) else [line]
            case "swap":
                return [swapped(line, dict(self.told[1]))]
            case "number":
                return [str(self.many) + " " + line]
            case "once":
                is_new = self.lines != [line]
                self.lines = [line]
                return [line] if is_new else []
        return [line]
