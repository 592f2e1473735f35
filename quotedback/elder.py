"""Elder lines put in where a line names them."""

from quotedback.errors import NoLine
from quotedback.names import DIGITS


def with_elder(text, lines):
    """Returns a text with elder lines put in for `!!` and `!N`, outside of single quotes."""
    found = ""
    is_quoted = False
    at = 0
    while at < len(text):
        stop = at + 1 if is_quoted else mark_end(text, at)
        if stop > at + 1:
            found += elder_line(text[at:stop], lines)
        else:
            found += text[at]
        if text[at] == "'":
            is_quoted = not is_quoted
        at = stop
    return found


def mark_end(text, at):
    """Returns where the mark ends that begins at a place, the place behind it if none does."""
    stop = at + 1
    if text[at] != "!":
        return stop
    if text[stop:stop + 1] == "!":
        return stop + 1
    while stop < len(text) and text[stop] in DIGITS:
        stop += 1
    return stop


def elder_line(mark, lines):
    number = len(lines) if mark == "!!" else int(mark[1:])
    if not 1 <= number <= len(lines):
        raise NoLine(mark)
    return lines[number - 1]
