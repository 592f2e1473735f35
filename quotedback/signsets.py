"""The signs of patterns, and sets of them as numbers, whose bit K tells whether the K-th sign is in the set."""

# In their order; the percent sign is none of them.
SIGNS = (
    "\n !\"#$&'()*+,-./0123456789:;<=>?@ABCDEFGHIJKLMNOPQRSTUVWXYZ[\\]^_`abcdefghijklmnopqrstuvwxyz{|}~"
)
ALL_SIGNS = (1 << 95) - 1
# Of which lines are made: all signs but the newline, which is the first one.
LINE_SIGNS = (1 << 95) - 2


def is_sign(text):
    return isinstance(text, str) and len(text) == 1 and text in SIGNS


def set_of(piece):
    """Returns the set of the signs of which a tuple of a pattern lets each by, all of them for a lot."""
    match piece:
        case ("one", sign):
            return 1 << SIGNS.index(sign)
        case ("of", no, ranges):
            found = 0
            for first, last in ranges:
                found |= (2 << SIGNS.index(last)) - (1 << SIGNS.index(first))
            return ALL_SIGNS ^ found if no else found
    return ALL_SIGNS


def least_sign(signs):
    """Returns the first sign of a set that is not empty."""
    return SIGNS[(signs & -signs).bit_length() - 1]


def piece_of(signs):
    """Returns a tuple of a pattern that lets each sign of a set by, and no other one."""
    if signs == 0:
        return ("of", True, [(SIGNS[0], SIGNS[-1])])
    return ("of", False, ranges_of(signs))


def ranges_of(signs):
    """Returns the ascending list of the ranges of a set, none of which touches another one."""
    found = []
    start = None
    for at, sign in enumerate(SIGNS):
        is_in = (signs >> at) & 1 == 1
        if is_in and start is None:
            start = sign
        if start is not None and not is_in:
            found.append((start, SIGNS[at - 1]))
            start = None
    if start is not None:
        found.append((start, SIGNS[-1]))
    return found
