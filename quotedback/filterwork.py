"""Filters: what the fields of a tool tell of one, and what each makes of lines."""

from quotedback.machines import Machine
from quotedback.patterns import pattern_of
from quotedback.sums import is_integer

MOST_FIGURES = 9


def lines_of(text):
    """Returns what stands ahead of each newline, and what is left at the end, if it is not empty."""
    lines = text.split("\n")
    return lines[:-1] if lines[-1] == "" else lines


def text_of(lines):
    return "".join([line + "\n" for line in lines])


def is_number(field):
    """Returns True for a number as tools take it."""
    return is_integer(field) and field[0] != "-" and len(field) <= MOST_FIGURES


def filter_told(fields):
    """Returns the filter that the fields of a tool are, `None` if they are none, or wrong."""
    match fields:
        case ["keep" | "drop", text]:
            return (fields[0], pattern_of([(sign, "bare") for sign in text]))
        case ["first" | "last", figures]:
            return (fields[0], int(figures)) if is_number(figures) else None
        case ["order" | "once" | "count" | "number"]:
            return (fields[0],)
        case ["swap", signs, others]:
            if signs != "" and len(signs) == len(others) == len(set(signs)):
                return ("swap", list(zip(signs, others)))
    return None


def filter_lines(one, lines):
    """Returns the lines that a filter makes of some lines."""
    match one:
        case ("keep" | "drop", pattern):
            machine = Machine([pattern])
            return [line for line in lines if machine.lets_by(line) == (one[0] == "keep")]
        case ("swap", pairs):
            return [swapped(line, dict(pairs)) for line in lines]
        case ("first", number):
            return lines[:number]
        case ("last", number):
            return lines[max(0, len(lines) - number):]
        case ("order",):
            return sorted(lines)
        case ("once",):
            return [line for at, line in enumerate(lines) if at == 0 or lines[at - 1] != line]
        case ("count",):
            return [str(len(lines))]
        case ("number",):
            return [str(at) + " " + line for at, line in enumerate(lines, start=1)]


def swapped(line, table):
    return "".join([table.get(sign, sign) for sign in line])
