"""Sums as a scanner reads them, with blanks and newlines around each part."""

from quotedback.names import DIGITS, NAME_SIGNS, NAME_STARTS
from quotedback.sumtrees import CHOOSE_RANK, RANKS

# Longer ones first, since some begin with others.
TWO_PART_SIGNS = ("&&", "||", "<=", ">=", "==", "!=", "<", ">", "*", "/", "^", "+", "-")


def sum_at(scanner):
    test = two_parts_at(scanner, CHOOSE_RANK + 1)
    if not scanner.takes("?"):
        return test
    one = sum_at(scanner)
    scanner.need(":")
    return ("choose", test, one, sum_at(scanner))


def two_parts_at(scanner, least):
    """Reads a sum whose signs of two parts have at least a rank, from the left."""
    tree = ahead_at(scanner)
    sign = two_part_sign(scanner)
    while sign != "" and RANKS[sign] >= least:
        scanner.need(sign)
        tree = (sign, tree, two_parts_at(scanner, RANKS[sign] + 1))
        sign = two_part_sign(scanner)
    return tree


def two_part_sign(scanner):
    for sign in TWO_PART_SIGNS:
        if scanner.sees(sign):
            return sign
    return ""


def ahead_at(scanner):
    scanner.row_of(" \n")
    if scanner.takes("-"):
        return ("minus", ahead_at(scanner))
    if scanner.takes("!"):
        return ("no", ahead_at(scanner))
    tree = plain_at(scanner)
    scanner.row_of(" \n")
    return tree


def plain_at(scanner):
    if scanner.takes("("):
        tree = sum_at(scanner)
        scanner.need(")")
        return tree
    if scanner.takes("$"):
        return ("of", place_at(scanner))
    if scanner.sees_one_of(NAME_STARTS):
        return ("of", scanner.row_of(NAME_SIGNS))
    return ("number", int(digits_at(scanner)))


def place_at(scanner):
    for sign in ("#", "?"):
        if scanner.takes(sign):
            return sign
    return digits_at(scanner)


def digits_at(scanner):
    """Reads 0, or digits without a 0 ahead."""
    digits = scanner.row_of(DIGITS)
    if digits == "" or (digits[0] == "0" and len(digits) > 1):
        scanner.fail()
    return digits
