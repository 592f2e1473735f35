"""Sums as trees: which ones there are, and how fast their signs bind."""

from quotedback.names import ALL_ARGUMENTS, is_name, is_place

# A sign with a greater rank binds faster.
CHOOSE_RANK = 1
RANKS = {
    "||": 2, "&&": 3, "==": 4, "!=": 4, "<": 5, "<=": 5, ">": 5, ">=": 5, "+": 6, "-": 6, "*": 7, "/": 7, "^": 7,
}
AHEAD_RANK = 8
PLAIN_RANK = 9


def is_sum(tree):
    match tree:
        case ("number", number):
            return number >= 0
        case ("of", name):
            return is_name(name) or (is_place(name) and name not in ALL_ARGUMENTS)
        case ("minus" | "no", part):
            return is_sum(part)
        case ("choose", test, one, other):
            return is_sum(test) and is_sum(one) and is_sum(other)
        case (sign, one, other):
            return sign in RANKS and is_sum(one) and is_sum(other)
    return False


def rank(tree):
    """Returns how fast the outermost sign of a sum binds."""
    if tree[0] in ("number", "of"):
        return PLAIN_RANK
    if tree[0] in ("minus", "no"):
        return AHEAD_RANK
    if tree[0] == "choose":
        return CHOOSE_RANK
    return RANKS[tree[0]]
