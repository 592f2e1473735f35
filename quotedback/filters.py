"""Filters and rows of them: what they write, and what holds for all that they may read."""

from itertools import combinations

from quotedback.copies import fresh
from quotedback.errors import InvalidFilters
from quotedback.filterwork import filter_lines, filter_told, lines_of, text_of
from quotedback.patterns import is_pattern
from quotedback.rowmachines import first_source, first_unlike, writes_nothing
from quotedback.signsets import is_sign

LINE_BY_LINE = ("keep", "drop", "swap", "first")


def is_row(row):
    return all([is_filter(one) for one in row])


def is_filter(one):
    match one:
        case ("keep" | "drop", pattern):
            return isinstance(pattern, list) and is_pattern(pattern)
        case ("swap", pairs):
            return isinstance(pairs, list) and are_pairs(pairs)
        case ("first" | "last", number):
            return isinstance(number, int) and number >= 0
        case ("order",) | ("once",) | ("count",) | ("number",):
            return True
    return False


def are_pairs(pairs):
    return pairs != [] and all([is_pair(pair) for pair in pairs]) and are_unlike([pair[0] for pair in pairs])


def is_pair(pair):
    match pair:
        case (sign, other):
            return is_line_sign(sign) and is_line_sign(other)
    return False


def is_line_sign(text):
    return is_sign(text) and text != "\n"


def are_unlike(texts):
    return len(texts) == len(set(texts))


def check_line_by_line(rows):
    for row in rows:
        if not is_row(row) or not all([one[0] in LINE_BY_LINE for one in row]):
            raise InvalidFilters(fresh(row))


def filtered(row, text):
    if not is_row(row):
        raise InvalidFilters(fresh(row))
    lines = lines_of(text)
    for one in row:
        lines = filter_lines(one, lines)
    return text_of(lines)


def filter_of(fields):
    told = filter_told(fields)
    if told is not None and told[0] == "swap" and not is_filter(told):
        return None
    return told


def first_parted(one, other):
    check_line_by_line([one, other])
    return first_unlike(one, other)


def alike(one, other):
    return first_parted(one, other) is None


def never_writes(row):
    check_line_by_line([row])
    return writes_nothing(row)


def source(row, lines):
    check_line_by_line([row])
    return first_source(row, lines)


def least_row(row):
    check_line_by_line([row])
    return [fresh(row[at]) for at in least_indexes(row)]


def least_indexes(row):
    """Returns the indexes of the filters that are kept in the shortest row that does the same."""
    for size in range(len(row)):
        for kept in combinations(range(len(row)), size):
            if first_unlike(row, [row[at] for at in kept]) is None:
                return list(kept)
    return list(range(len(row)))


def passing(one, other):
    check_line_by_line([[one, other]])
    return first_unlike([one, other], [other, one]) is None
