"""Words as a reader reads them. A reader is a scanner that reads the script of a `$(`, too."""

from quotedback.names import BARE_SIGNS, DIGITS, NAME_SIGNS, NAME_STARTS, PLACE_SIGNS
from quotedback.sumreading import sum_at
from quotedback.texts import DEED_MARKS, HERE_SLASHED, QUOTED_SLASHED

PIECE_STARTS = BARE_SIGNS + "'\"\\$"
# Longer ones first, since they begin with the others.
CUT_MARKS = ("##", "#", "^^", "^")


def pieces_at(reader):
    """Reads the pieces, maybe none, of a word or of the word of a deed."""
    pieces = []
    while reader.sees_one_of(PIECE_STARTS):
        pieces.append(piece_at(reader))
    reader.word_end = reader.at
    return pieces


def piece_at(reader):
    if reader.sees("$"):
        return dollar_at(reader)
    if reader.takes("'"):
        return ("held", reader.up_to("'"))
    if reader.takes("\\"):
        sign = reader.sign()
        if sign == "" or sign == "\n":
            reader.fail()
        reader.need(sign)
        return ("mark", sign)
    if reader.takes("\""):
        pieces = quoted_at(reader)
        reader.need("\"")
        return ("wide", pieces)
    return ("bare", reader.row_of(BARE_SIGNS))


def quoted_at(reader):
    """Reads the pieces up to a double quote."""
    pieces = []
    while not reader.is_at_end() and not reader.sees("\""):
        pieces.append(dollar_at(reader) if reader.sees("$") else plain_at(reader, "\"", QUOTED_SLASHED))
    return pieces


def here_pieces_at(reader):
    """Reads the pieces of a here-text that isn't held, to the end of the text."""
    pieces = []
    while not reader.is_at_end():
        pieces.append(dollar_at(reader) if reader.sees("$") else plain_at(reader, "", HERE_SLASHED))
    return pieces


def plain_at(reader, end, slashed):
    """Reads plain signs up to an end sign or a `$`; ahead of some signs a `\\` is left out."""
    text = ""
    while not reader.is_at_end() and not reader.sees_one_of("$" + end):
        if reader.sees("`"):
            reader.fail()
        behind = reader.text[reader.at + 1:reader.at + 2]
        if reader.sees("\\") and behind != "" and behind in slashed:
            reader.need("\\")
        text += reader.sign()
        reader.at += 1
    return ("plain", text)


def dollar_at(reader):
    if reader.takes("$(("):
        tree = sum_at(reader)
        reader.need("))")
        return ("sum", tree)
    if reader.takes("$("):
        script = reader.script()
        reader.need(")")
        return ("run", script)
    if reader.takes("${"):
        piece = braced_at(reader)
        reader.need("}")
        return piece
    reader.need("$")
    if reader.sees_one_of(DIGITS):
        digit = reader.sign()
        reader.need(digit)
        return ("name", digit, ())
    return ("name", name_at(reader), ())


def name_at(reader):
    """Reads a name or place, all digits of a place."""
    if reader.sees_one_of(NAME_STARTS):
        return reader.row_of(NAME_SIGNS)
    for sign in PLACE_SIGNS:
        if reader.takes(sign):
            return sign
    digits = reader.row_of(DIGITS)
    if digits == "":
        reader.fail()
    return digits


def braced_at(reader):
    if is_at_size(reader):
        reader.need("#")
        return ("name", name_at(reader), ("size",))
    name = name_at(reader)
    return ("name", name, deed_at(reader))


def is_at_size(reader):
    """Tells whether a `#`, a name or place and `}` stand here."""
    start = reader.at
    if not reader.takes("#"):
        return False
    found = reader.sees_one_of(NAME_SIGNS + "#?@*") and name_at(reader) != "" and reader.sees("}")
    reader.at = start
    return found


def deed_at(reader):
    empty = reader.takes(":")
    for kind, mark in DEED_MARKS.items():
        if reader.takes(mark):
            return (kind, empty, pieces_at(reader))
    if empty:
        reader.fail()
    for mark in CUT_MARKS:
        if reader.takes(mark):
            return ("cut", mark, pieces_at(reader))
    return ()
