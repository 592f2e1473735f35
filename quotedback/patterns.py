"""Patterns: which texts they let by, and how they lie to one another over all texts."""

from quotedback.copies import fresh
from quotedback.errors import InvalidPattern
from quotedback.machines import Machine, rows_told
from quotedback.signsets import ALL_SIGNS, SIGNS, is_sign, least_sign, ranges_of, set_of

SPECIAL = {"*": ("lot",), "?": ("any",)}


def is_pattern(pattern):
    return all([is_pattern_piece(piece) for piece in pattern])


def is_pattern_piece(piece):
    match piece:
        case ("any",) | ("lot",):
            return True
        case ("one", sign):
            return is_sign(sign)
        case ("of", True | False, ranges):
            return isinstance(ranges, list) and ranges != [] and all([is_range(told) for told in ranges])
    return False


def is_range(told):
    match told:
        case (first, last):
            return is_sign(first) and is_sign(last) and first <= last
    return False


def check_patterns(patterns):
    for pattern in patterns:
        if not is_pattern(pattern):
            raise InvalidPattern(fresh(pattern))


def pattern_of(signs):
    row = [(sign, mark) for sign, mark in signs if sign != ""]
    pattern = []
    at = 0
    while at < len(row):
        stop = of_end(row, at)
        if stop > at:
            pattern.append(of_told(row[at + 1:stop]))
            at = stop + 1
        else:
            pattern.append(sign_told(row[at]))
            at += 1
    return pattern


def sign_told(signed):
    sign, mark = signed
    if mark != "firm" and sign in SPECIAL:
        return SPECIAL[sign]
    return ("one", sign)


def is_loose(row, at, sign):
    """Tells whether a sign that is not firm stands at a place of a row of tuples (sign, mark)."""
    return at < len(row) and row[at][0] == sign and row[at][1] != "firm"


def of_end(row, at):
    """Returns where the bracket is that ends the "of" that begins at a place, that place if none begins there."""
    if not is_loose(row, at, "["):
        return at
    first = at + 2 if is_loose(row, at + 1, "!") else at + 1
    for stop in range(first + 1, len(row)):
        if is_loose(row, stop, "]"):
            return stop
    return at


def of_told(row):
    """Returns the "of" of what stands between its brackets."""
    says_no = is_loose(row, 0, "!")
    at = 1 if says_no else 0
    ranges = []
    while at < len(row):
        if is_loose(row, at + 1, "-") and at + 2 < len(row) and row[at + 2][0] >= row[at][0]:
            ranges.append((row[at][0], row[at + 2][0]))
            at += 3
        else:
            ranges.append((row[at][0], row[at][0]))
            at += 1
    return ("of", says_no, ranges)


def meets(pattern, text):
    check_patterns([pattern])
    return Machine([pattern]).lets_by(text)


def heads(pattern, text):
    check_patterns([pattern])
    return lengths_of(pattern, text)


def tails(pattern, text):
    check_patterns([pattern])
    return lengths_of(pattern[::-1], text[::-1])


def lengths_of(pattern, text):
    """Returns the ascending list of the lengths of the beginnings of a text that a pattern lets by."""
    machine = Machine([pattern])
    standing = machine.start
    found = [0] if machine.lets(standing, 0) else []
    for at, sign in enumerate(text):
        standing = machine.stepped(standing, machine.mask_of(sign))
        if machine.lets(standing, 0):
            found.append(at + 1)
    return found


def least_text(pattern):
    check_patterns([pattern])
    sets = [set_of(piece) for piece in pattern if piece != ("lot",)]
    if 0 in sets:
        return None
    return "".join([least_sign(signs) for signs in sets])


def same(one, other):
    return first_apart(one, other) is None


def within(one, other):
    check_patterns([one, other])
    machine = Machine([one, other])
    for standing, _ in machine.standings():
        if machine.lets(standing, 0) and not machine.lets(standing, 1):
            return False
    return True


def first_apart(one, other):
    check_patterns([one, other])
    machine = Machine([one, other])
    for standing, text in machine.standings():
        if machine.lets(standing, 0) != machine.lets(standing, 1):
            return text
    return None


def common(one, other):
    check_patterns([one, other])
    machine = Machine([one, other])
    for standing, text in machine.standings():
        if machine.lets(standing, 0) and machine.lets(standing, 1):
            return text
    return None


def never_met(arms):
    patterns = [pattern for arm in arms for pattern in arm]
    check_patterns(patterns)
    machine = Machine(patterns)
    owners = [index for index, arm in enumerate(arms) for _ in arm]
    waiting = {index: True for index in range(len(arms))}
    for standing, _ in machine.standings():
        waiting.pop(first_owner(machine, standing, owners), None)
    return sorted(waiting)


def first_owner(machine, standing, owners):
    """Returns the first index of an arm one of whose patterns lets by, `None` if there is none."""
    for at, owner in enumerate(owners):
        if machine.lets(standing, at):
            return owner
    return None


def unmet(arms):
    patterns = [pattern for arm in arms for pattern in arm]
    check_patterns(patterns)
    machine = Machine(patterns)
    for standing, text in machine.standings():
        if not any([machine.lets(standing, at) for at in range(len(patterns))]):
            return text
    return None


def shown_least(pattern):
    check_patterns([pattern])
    return rows_told([piece_told(piece) for piece in pattern])


def piece_told(piece):
    if piece[0] != "of":
        return piece
    signs = set_of(piece)
    if signs == 0:
        return ("of", True, [(SIGNS[0], SIGNS[-1])])
    if signs == ALL_SIGNS:
        return ("any",)
    ranges = ranges_of(signs)
    if len(ranges) == 1 and ranges[0][0] == ranges[0][1]:
        return ("one", ranges[0][0])
    others = ranges_of(ALL_SIGNS ^ signs)
    return ("of", False, ranges) if len(ranges) <= len(others) else ("of", True, others)
