"""Trees shown as texts, which are read as these trees."""

from quotedback.copies import fresh
from quotedback.errors import InvalidTree
from quotedback.lines import script_lines
from quotedback.names import NAME_SIGNS, is_name
from quotedback.sumtrees import AHEAD_RANK, CHOOSE_RANK, is_sum, rank
from quotedback.trees import is_script, is_word

QUOTED_SLASHED = "\"\\$`"
HERE_SLASHED = "\\$`"
DEED_MARKS = {"lack": "-", "set": "=", "must": "?", "other": "+"}
AHEAD_SIGNS = {"minus": "-", "no": "!"}


def show_word(word):
    if not is_word(word):
        raise InvalidTree(fresh(word))
    return pieces_text(word, QUOTED_SLASHED)


def show_sum(tree):
    if not is_sum(tree):
        raise InvalidTree(fresh(tree))
    return sum_text(tree)


def show_script(script):
    if not is_script(script):
        raise InvalidTree(fresh(script))
    return script_text(script)


def script_text(script):
    """Returns the text of a script, without a newline at its end if no here-text stands there."""
    lines = script_lines(script)
    text = ""
    for line in lines:
        text += line_text(line)
    if lines == [] or "here" in [kind for kind, _ in lines[-1]]:
        return text
    return text[:-1]


def line_text(line):
    """Returns the text of a line, with its newline and its here-texts."""
    text = ""
    behind = ""
    for kind, part in line:
        if kind == "text":
            text += part
        elif kind == "word":
            text += pieces_text(part, QUOTED_SLASHED)
        else:
            here = here_text(part[0])
            end = end_word(here)
            text += "'" + end + "'" if part[0][0] == "held" else end
            behind += here + end + "\n"
    return text + "\n" + behind


def here_text(piece):
    if piece[0] == "held":
        return piece[1]
    return pieces_text(piece[1], HERE_SLASHED)


def end_word(here):
    lines = here.split("\n")
    end = "E"
    while end in lines:
        end += "E"
    return end


def pieces_text(pieces, slashed):
    """Returns the text of a list of pieces, with `\\` ahead of some signs of "plain" ones."""
    text = ""
    # From the end on, since what follows tells whether a name needs braces.
    for piece in reversed(pieces):
        text = piece_text(piece, text, slashed) + text
    return text


def piece_text(piece, following, slashed):
    match piece:
        case ("bare", text):
            return text
        case ("held", text):
            return "'" + text + "'"
        case ("mark", held):
            return "\\" + held
        case ("wide", inner):
            return "\"" + pieces_text(inner, QUOTED_SLASHED) + "\""
        case ("plain", text):
            return "".join(["\\" + sign if sign in slashed else sign for sign in text])
        case ("name", name, deed):
            return name_text(name, deed, following)
        case ("sum", tree):
            return "$((" + sum_text(tree) + "))"
        case ("run", script):
            return run_text(script_text(script))


def run_text(inner):
    # Behind `$((` a sum would be read.
    return "$( " + inner + ")" if inner[:1] == "(" else "$(" + inner + ")"


def name_text(name, deed, following):
    match deed:
        case ("size",):
            return "${#" + name + "}"
        case ("cut", mark, word):
            return "${" + name + mark + pieces_text(word, QUOTED_SLASHED) + "}"
        case (kind, empty, word):
            colon = ":" if empty else ""
            return "${" + name + colon + DEED_MARKS[kind] + pieces_text(word, QUOTED_SLASHED) + "}"
    if needs_braces(name, following):
        return "${" + name + "}"
    return "$" + name


def needs_braces(name, following):
    if is_name(name):
        return following != "" and following[0] in NAME_SIGNS
    return len(name) > 1


def sum_text(tree):
    match tree:
        case ("number", number):
            return str(number)
        case ("of", name):
            return name if is_name(name) else "$" + name
        case ("minus" | "no", part):
            return AHEAD_SIGNS[tree[0]] + part_text(part, AHEAD_RANK)
        case ("choose", test, one, other):
            # Between `?` and `:` any sum is whole without brackets.
            middle = sum_text(one)
            return part_text(test, CHOOSE_RANK + 1) + " ? " + middle + " : " + part_text(other, CHOOSE_RANK)
        case (sign, one, other):
            least = rank(tree)
            return part_text(one, least) + " " + sign + " " + part_text(other, least + 1)


def part_text(tree, least):
    """Returns the text of a part of a sum, in brackets if its sign binds less than it must."""
    if rank(tree) < least:
        return "(" + sum_text(tree) + ")"
    return sum_text(tree)
