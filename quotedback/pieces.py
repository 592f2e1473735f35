"""Which lists of pieces are let in words. The scripts in them are not looked at here."""

from quotedback.names import is_bare, is_name, is_place
from quotedback.sumtrees import is_sum

CUT_MARKS = ("#", "##", "^", "^^")


def are_pieces(pieces):
    """Returns True if a list, which may be empty, is one of pieces outside of double quotes."""
    return all([is_piece(piece) for piece in pieces]) and not has_neighbours(pieces, "bare")


def are_wide(pieces):
    """Returns True if a list, which may be empty, is one of pieces between double quotes."""
    return all([is_wide_piece(piece) for piece in pieces]) and not has_neighbours(pieces, "plain")


def is_full_word(word):
    return word != [] and are_pieces(word)


def is_piece(piece):
    match piece:
        case ("bare", text):
            return is_bare(text)
        case ("held", text):
            return "'" not in text
        case ("mark", sign):
            return len(sign) == 1 and sign != "\n"
        case ("wide", pieces):
            return are_wide(pieces)
    return is_dollar(piece)


def is_wide_piece(piece):
    match piece:
        case ("plain", text):
            return text != ""
    return is_dollar(piece)


def is_dollar(piece):
    """Returns True for the pieces that stand within double quotes and outside of them."""
    match piece:
        case ("name", name, deed):
            return (is_name(name) or is_place(name)) and is_deed_on(name, deed)
        case ("sum", tree):
            return is_sum(tree)
        case ("run", _):
            return True
    return False


def is_deed_on(name, deed):
    """Returns True if a deed may be done with a name or place."""
    if deed == () or deed == ("size",):
        return True
    if is_shown_as_size(name, deed):
        return False
    match deed:
        case ("lack" | "set" | "must" | "other", _, word):
            return are_pieces(word)
        case ("cut", mark, word):
            return mark in CUT_MARKS and are_pieces(word)
    return False


def is_shown_as_size(name, deed):
    # Their texts, ${#?} and ${##}, are read as the sizes of ? and #, so these trees are none.
    return name == "#" and deed in (("must", False, []), ("cut", "#", []))


def has_neighbours(pieces, kind):
    """Returns True if two pieces of a kind stand side by side."""
    return any([one[0] == kind and other[0] == kind for one, other in zip(pieces, pieces[1:])])
