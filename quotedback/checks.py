"""What can be told of words and scripts for all rooms."""

from quotedback.copies import fresh
from quotedback.errors import InvalidTree
from quotedback.fieldcounts import counted, is_least_quoted, is_one_field, split_room
from quotedback.looking import names_looked_at, names_maybe_set
from quotedback.splitting import PATTERN_STARTS
from quotedback.trees import check_script, is_script, is_word
from quotedback.truths import first_parting, truths_of


def field_count(word):
    check_word(word)
    return counted(word)


def is_single(word):
    check_word(word)
    return is_one_field(word)


def splitting(word):
    check_word(word)
    return split_room(word)


def quoted_least(word):
    check_word(word)
    return is_least_quoted(word)


def can_meet_paths(word):
    check_word(word)
    return any([piece_can_meet(piece) for piece in word])


def check_word(word):
    if not is_word(word):
        raise InvalidTree(fresh(word))


def piece_can_meet(piece):
    match piece:
        case ("bare", text):
            return any([sign in PATTERN_STARTS for sign in text])
        case ("run", _):
            return True
        case ("name", name, deed):
            if name not in ("#", "?") and deed != ("size",) and deed[:1] != ("other",):
                return True
            return len(deed) == 3 and deed[0] != "cut" and any([piece_can_meet(inner) for inner in deed[2]])
    return False


def same_words(one, other):
    check_word(one)
    check_word(other)
    return blocks_of(one) == blocks_of(other)


def blocks_of(word):
    """Returns the list of the loose names of a word, and of the blocks ahead of, between and behind them.

    A block is a list of signs and firm names, which come to a field even if they have no signs; it is `None` where
    nothing stands.
    """
    told = []
    block = None
    for kind, text in items_of(word):
        if kind == "loose":
            told.extend([block, ("loose", text)])
            block = None
        elif kind == "there":
            block = block or []
        else:
            block = (block or []) + [(kind, text)]
    told.append(block)
    return told


def items_of(pieces):
    """Returns the tuples (kind, text): each a "sign", a "loose" or "firm" name, or what is "there" without a sign."""
    items = []
    for piece in pieces:
        match piece:
            case ("name", name, _):
                items.append(("loose", name))
            case ("wide", inner):
                items.append(("there", ""))
                items.extend([("firm" if kind == "loose" else kind, text) for kind, text in items_of(inner)])
            case (told, signs):
                if told == "held":
                    items.append(("there", ""))
                items.extend([("sign", sign) for sign in signs])
    return items


def reads(script):
    check_script(script)
    return names_looked_at(script)


def sets(script):
    check_script(script)
    return names_maybe_set(script)


def same_lists(one, other):
    check_command(one)
    check_command(other)
    return first_parting(one, other)


def list_comes_to(command):
    check_command(command)
    return truths_of(command)


def check_command(command):
    if not is_script([command]):
        raise InvalidTree(fresh(command))
