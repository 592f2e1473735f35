"""How many fields a word comes to in any room. The words are taken to be right."""

from quotedback.guessing import ENDLESS, Choices, guesses
from quotedback.machines import rows_told
from quotedback.patterns import pattern_of
from quotedback.signsets import SIGNS, set_of
from quotedback.splitting import PATTERN_STARTS, can_give_way, parts_told

# Each sign that a number may have ends a field, and so does the colon.
HARD = ":-0123456789"
# Texts and numbers of arguments of this size have two figures.
SOME = 12


def least_choices():
    # Texts of blanks alone, and texts that are not cut: no other ones come to less fields.
    return Choices(" ", ["a", " "], [""], [0, 1, 2, 3], "1")


def most_choices(size):
    text = ":" * size
    return Choices(HARD, [text], [text], [0, 1, 2, 3, size], "1" * size)


def path_choices(separators):
    # Two unlike signs, so that an "of" of them meets two paths; nothing, so that a bracket may end elsewhere.
    return Choices(separators, ["ab" * (SOME // 2)], ["ab", ""], [0, 1, 2, 3, SOME], "10")


def counted(word):
    """Returns the least and the greatest number of fields, `None` for the latter if there is no end."""
    least = None
    choices = least_choices()
    for _, fields in guesses(word, choices):
        least = len(fields) if least is None else min(least, len(fields))
    if least is None:
        return (0, 0)
    greatest = 0
    choices = most_choices(ENDLESS)
    for _, fields in guesses(word, choices):
        greatest = max(greatest, len(fields))
        if greatest >= ENDLESS:
            return (least, None)
    return (least, greatest)


def is_one_field(word):
    if counted(word) != (1, 1):
        return False
    if not has_pattern_start(word):
        return True
    for separators in ("", HARD):
        choices = path_choices(separators)
        for _, fields in guesses(word, choices):
            if can_give_way(fields[0]) and meets_several(pattern_of(fields[0])):
                return False
    return True


def has_pattern_start(pieces):
    """Returns True if a bare sign of a word may begin a pattern, in words of deeds, too."""
    for piece in pieces:
        match piece:
            case ("bare", text):
                if any([sign in PATTERN_STARTS for sign in text]):
                    return True
            case ("name", _, (_, _, word)):
                if has_pattern_start(word):
                    return True
    return False


def meets_several(pattern):
    """Tells whether there is more than one path that a pattern lets by."""
    parts = parts_told(pattern)
    if parts[0] == [] and len(parts) > 1:
        parts = parts[1:]
    if [] in parts:
        return False
    slash = 1 << SIGNS.index("/")
    counts = [ways(piece, slash) for part in parts for piece in rows_told(part)]
    return 0 not in counts and max(counts) > 1


def ways(piece, slash):
    """Returns how many signs, but the slash, a tuple lets by, at most 2."""
    signs = set_of(piece) & ~slash
    if signs == 0:
        return 0
    return 1 if signs & (signs - 1) == 0 else 2


def split_room(word):
    """Returns a room, and answers, in which a word comes to several fields, `None` if there is none."""
    choices = most_choices(SOME)
    for guess, fields in guesses(word, choices):
        if len(fields) > 1:
            names = {name: text for name, text in guess.known.items() if name not in ("@", "0") and text is not None}
            names["SEP"] = HARD
            title = guess.known.get("0", "")
            return ((names, list(guess.arguments), title, guess.status, []), list(guess.answers_told))
    return None


def is_least_quoted(word):
    return is_one_field(word) and not any([is_one_field(opened) for opened in opened_words(word)])


def opened_words(pieces):
    """Returns the words in each of which one "wide" with other pieces than "plain" has no double quotes."""
    found = []
    for at, piece in enumerate(pieces):
        ahead, behind = pieces[:at], pieces[at + 1:]
        match piece:
            case ("wide", inner):
                if any([one[0] != "plain" for one in inner]):
                    found.append(ahead + opened_pieces(inner) + behind)
                found.extend([ahead + [("wide", changed)] + behind for changed in opened_words(inner)])
            case ("name", name, (kind, told, word)):
                deeds = [(kind, told, changed) for changed in opened_words(word)]
                found.extend([ahead + [("name", name, deed)] + behind for deed in deeds])
    return found


def opened_pieces(inner):
    found = []
    for piece in inner:
        if piece[0] != "plain":
            found.append(piece)
        else:
            for at, text in enumerate(piece[1].split("'")):
                found.extend([("mark", "'")] if at > 0 else [])
                found.extend([("held", text)] if text != "" else [])
    return found
