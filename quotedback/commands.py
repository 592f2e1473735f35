"""Which commands are let. The commands within them are taken to be right in themselves here."""

from quotedback.names import KEY_WORDS, begins_set, is_name, may_be_made
from quotedback.pieces import are_pieces, are_wide, is_full_word

BODIES = ("group", "apart", "if", "while", "until", "each", "case")
NOT_PIPED = ("pipe", "not", "and", "or")
NOT_TURNED_ABOUT = ("not", "and", "or")
LISTS = ("and", "or")

PATH_MARKS = ("<", ">", ">>")
SAME_PIECES = (("bare", "0"), ("bare", "1"), ("bare", "2"), ("bare", "-"))


def is_command(command):
    match command:
        case ("do", sets, words, turns):
            return is_do(sets, words, turns)
        case ("make", name, body):
            return may_be_made(name) and body[0] in BODIES
        case ("pipe", commands):
            return len(commands) >= 2 and all([piped[0] not in NOT_PIPED for piped in commands])
        case ("not", part):
            return part[0] not in NOT_TURNED_ABOUT
        case ("and" | "or", _, other):
            return other[0] not in LISTS
    return is_block(command)


def is_block(command):
    """Returns what `is_command` does, of the commands that have scripts."""
    match command:
        case ("group" | "apart", script, turns):
            return script != [] and are_turns(turns)
        case ("if", arms, other, turns):
            return are_if_arms(arms) and other != [] and are_turns(turns)
        case ("while" | "until", test, script, turns):
            return test != [] and script != [] and are_turns(turns)
        case ("each", name, words, script, turns):
            return is_name(name) and (words is None or are_words(words)) and script != [] and are_turns(turns)
        case ("case", word, arms, turns):
            return is_full_word(word) and are_case_arms(arms) and are_turns(turns)
    return False


def is_do(sets, words, turns):
    if sets == [] and words == [] and turns == []:
        return False
    if not all([is_name(name) and are_pieces(word) for name, word in sets]):
        return False
    if not are_words(words) or not are_turns(turns):
        return False
    return words == [] or is_first_word(words[0], sets)


def is_first_word(word, sets):
    if sets == [] and is_key_word(word):
        return False
    return word[0][0] != "bare" or not begins_set(word[0][1])


def is_key_word(word):
    return len(word) == 1 and word[0][0] == "bare" and word[0][1] in KEY_WORDS


def are_words(words):
    return all([is_full_word(word) for word in words])


def are_if_arms(arms):
    return arms != [] and all([test != [] and script != [] for test, script in arms])


def are_case_arms(arms):
    return all([is_arm_head(words) for words, _ in arms])


def is_arm_head(words):
    return words != [] and are_words(words) and words[0] != [("bare", "esac")]


def are_turns(turns):
    return all([is_turn(number, mark, word) for number, mark, word in turns])


def is_turn(number, mark, word):
    if number not in (0, 1, 2):
        return False
    if mark in PATH_MARKS:
        return is_full_word(word)
    if mark == ">&":
        return len(word) == 1 and word[0] in SAME_PIECES
    return mark == "<<" and len(word) == 1 and is_here_text(word[0])


def is_here_text(piece):
    """Returns True if a piece is the text of a `<<`: whole lines, held or between double quotes."""
    match piece:
        case ("held", text):
            return text == "" or text[-1] == "\n"
        case ("wide", pieces):
            return are_wide(pieces) and (pieces == [] or ends_line(pieces[-1]))
    return False


def ends_line(piece):
    return piece[0] == "plain" and piece[1][-1] == "\n"
