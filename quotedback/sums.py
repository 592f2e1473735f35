"""Sums worked out, looked at and folded."""

from quotedback.copies import fresh
from quotedback.errors import DividedByZero, InvalidTree, NoInteger, ShellError, TooGreat
from quotedback.names import DIGITS, is_name
from quotedback.sumtrees import is_sum

MOST_FIGURES = 40
# The least number that has more figures.
TOO_GREAT = 10 ** 40


def worked_out(tree, names, arguments):
    check_sum(tree)
    return number_of(tree, names, arguments)


def names_in(tree):
    check_sum(tree)
    return sorted(set(all_names(tree)))


def is_steady(tree):
    check_sum(tree)
    return steady_number(tree) is not None


def folded(tree):
    check_sum(tree)
    return folded_parts(tree)


def check_sum(tree):
    if not is_sum(tree):
        raise InvalidTree(fresh(tree))


def number_of(tree, names, arguments):
    """Returns the number of a sum; its parts are looked at from the left, where they are needed."""
    match tree:
        case ("number", number):
            return checked(number, tree)
        case ("of", name):
            return number_told(text_of(name, names, arguments))
        case ("minus", part):
            return -number_of(part, names, arguments)
        case ("no", part):
            return 1 if number_of(part, names, arguments) == 0 else 0
        case ("choose", test, one, other):
            if number_of(test, names, arguments) != 0:
                return number_of(one, names, arguments)
            return number_of(other, names, arguments)
        case ("&&", one, other):
            if number_of(one, names, arguments) == 0:
                return 0
            return 1 if number_of(other, names, arguments) != 0 else 0
        case ("||", one, other):
            if number_of(one, names, arguments) != 0:
                return 1
            return 1 if number_of(other, names, arguments) != 0 else 0
        case (_, one, other):
            first = number_of(one, names, arguments)
            return checked(joined_numbers(tree, first, number_of(other, names, arguments)), tree)


def checked(number, tree):
    if abs(number) >= TOO_GREAT:
        raise TooGreat(fresh(tree))
    return number


def joined_numbers(tree, one, other):
    """Returns what the sign of a sum makes of the numbers of its two parts."""
    match tree[0]:
        case "*":
            return one * other
        case "+":
            return one + other
        case "-":
            return one - other
        case "/" | "^":
            if other == 0:
                raise DividedByZero(fresh(tree))
            return cut_quotient(one, other) if tree[0] == "/" else one - other * cut_quotient(one, other)
    return 1 if compared(tree[0], one, other) else 0


def cut_quotient(one, other):
    """Returns a quotient without what stands behind the point."""
    quotient = abs(one) // abs(other)
    return quotient if (one < 0) == (other < 0) else -quotient


def compared(sign, one, other):
    match sign:
        case "<":
            return one < other
        case "<=":
            return one <= other
        case ">":
            return one > other
        case ">=":
            return one >= other
        case "==":
            return one == other
    return one != other


def text_of(name, names, arguments):
    """Returns the text of a name or place, the empty one if it is not set."""
    if is_name(name) or name in ("#", "?", "0"):
        return names.get(name, "")
    place = int(name)
    return arguments[place - 1] if place <= len(arguments) else ""


def number_told(text):
    if text == "":
        return 0
    if not is_integer(text) or len(text.lstrip("-")) > MOST_FIGURES:
        raise NoInteger(text)
    return int(text)


def is_integer(text):
    """Returns True if a text is an integer as Python's str shows it."""
    figures = text[1:] if text[:1] == "-" else text
    if figures == "" or not all([sign in DIGITS for sign in figures]):
        return False
    return text == "0" or figures[0] != "0"


def all_names(tree):
    """Returns the names and places in a sum, from the left."""
    if tree[0] == "number":
        return []
    if tree[0] == "of":
        return [tree[1]]
    return [name for part in tree[1:] for name in all_names(part)]


def steady_number(tree):
    """Returns the number of a sum without names and places, `None` if it has some or gives an error."""
    if all_names(tree) != []:
        return None
    try:
        return number_of(tree, {}, [])
    except ShellError:
        return None


def folded_parts(tree):
    if tree[0] in ("number", "of"):
        return tree
    parts = [folded_parts(part) for part in tree[1:]]
    whole = (tree[0], *parts)
    number = steady_number(whole)
    if number is not None:
        return number_tree(number)
    first = told_number(parts[0])
    if first is None:
        return whole
    if tree[0] == "choose":
        return parts[1] if first != 0 else parts[2]
    if tree[0] == "&&" and first == 0:
        return ("number", 0)
    if tree[0] == "||" and first != 0:
        return ("number", 1)
    return whole


def number_tree(number):
    return ("number", number) if number >= 0 else ("minus", ("number", -number))


def told_number(tree):
    """Returns the number that a sum tells by itself, `None` if it is no number."""
    match tree:
        case ("number", number):
            return number
        case ("minus", ("number", size)):
            return -size
    return None
