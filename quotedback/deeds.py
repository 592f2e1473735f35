"""The deeds of the shell that look at nothing but their fields and the world."""

from quotedback.names import DEEDS
from quotedback.paths import is_folder, path_said
from quotedback.sums import is_integer
from quotedback.worlds import check_world

WRONG = 2


def is_deed(name):
    return name in DEEDS


def said(fields):
    return " ".join(fields) + "\n"


def tested(fields, world):
    check_world(world)
    return test_status(fields, world)


def test_status(fields, world):
    """Returns the status of `test` in a world that is one."""
    at = 0
    while at + 1 < len(fields) and fields[at] == "!":
        at += 1
    truth = truth_of(fields[at:], world)
    if truth is None:
        return WRONG
    return 0 if truth == (at & 1 == 0) else 1


def truth_of(fields, world):
    """Returns what fields without `!` ahead say, `None` if they are wrong."""
    match fields:
        case [text]:
            return text != ""
        case [sign, text]:
            return truth_of_text(sign, text, world)
        case [one, sign, other]:
            return truth_of_two(one, sign, other)
    return None


def truth_of_text(sign, text, world):
    path = path_said(world[1], text)
    match sign:
        case "-n":
            return text != ""
        case "-z":
            return text == ""
        case "-f":
            return path in world[0] and world[0][path] is not None
        case "-d":
            return is_folder(world[0], path)
    return None


def truth_of_two(one, sign, other):
    match sign:
        case "=":
            return one == other
        case "!=":
            return one != other
    if not is_integer(one) or not is_integer(other):
        return None
    match sign:
        case "-eq":
            return one == other
        case "-ne":
            return one != other
        case "-lt":
            return is_less(one, other)
        case "-le":
            return not is_less(other, one)
        case "-gt":
            return is_less(other, one)
        case "-ge":
            return not is_less(one, other)
    return None


def is_less(one, other):
    """Compares the texts of integers, which may have more figures than Python reads."""
    if one[0] == "-" or other[0] == "-":
        return one[0] == "-" and (other[0] != "-" or is_less(other[1:], one[1:]))
    return (len(one), one) < (len(other), other)
