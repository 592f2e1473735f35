"""Whether the first commands that are done in a script look at the status ahead of it."""

from quotedback.deeds import is_deed
from quotedback.parts import parts_of, scripts_in_word
from quotedback.passes import bare_texts, is_status_text
from quotedback.sums import names_in

STATUS = "?"


def are_free(script):
    """Tells whether no command that can be the first one of a script looks at the status."""
    return script == [] or is_free(script[0])


def is_free(command):
    if command[0] == "make":
        return True
    words = [word for _, kind, word in parts_of(command) if kind == "word"]
    if any([names_status(word) for word in words]) or (command[0] == "do" and may_look(command)):
        return False
    scripts = [script for word in words for _, script in scripts_in_word(word)]
    return all([are_free(script) for script in scripts + first_scripts(command)])


def may_look(command):
    """Tells whether a "do" may look at the status by what it does."""
    words = command[2]
    if words == []:
        return False
    if len(words[0]) != 1 or words[0][0][0] != "bare" or not is_deed(words[0][0][1]):
        return True
    if words[0][0][1] not in ("return", "exit"):
        return False
    return not (len(words) == 2 and len(words[1]) == 1 and words[1][0][0] == "bare" and is_status_text(words[1][0][1]))


def names_status(pieces):
    """Tells whether the status is looked at by pieces, but not by the scripts in them."""
    for piece in pieces:
        match piece:
            case ("wide", inner):
                if names_status(inner):
                    return True
            case ("name", name, deed):
                if name == STATUS or (len(deed) == 3 and names_status(deed[2])):
                    return True
            case ("sum", tree):
                if STATUS in names_in(tree):
                    return True
    return False


def first_scripts(command):
    """Returns the scripts in a command of each of which the first command can be the first one done."""
    match command:
        case ("pipe", commands):
            return [[side] for side in commands]
        case ("not", part):
            return [[part]]
        case ("and" | "or", one, _):
            return [[one]]
        case ("group" | "apart", script, _):
            return [script]
        case ("while" | "until", test, _, _):
            return [test]
        case ("each", _, _, script, _):
            return [script]
        case ("if", arms, _, _):
            return [arms[0][0]]
        case ("case", _, arms, _):
            return [script_of_arm for _, script_of_arm in arms]
    return []
