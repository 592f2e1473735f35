"""Words and scripts as trees: which ones there are, and what stands in them."""

from quotedback.commands import is_command
from quotedback.copies import fresh
from quotedback.errors import InvalidTree
from quotedback.lines import script_lines
from quotedback.parts import commands_in_word, commands_within
from quotedback.pieces import is_full_word


def is_word(tree):
    return is_full_word(tree) and first_wrong_in(commands_in_word(tree)) is None


def is_script(tree):
    return first_wrong(tree) is None


def first_wrong(script):
    """Returns the path to the first command that is none, inner ones first, `None` if there is none."""
    return first_wrong_in([([at], command) for at, command in enumerate(script)])


def first_wrong_in(commands):
    """Returns the path to the first wrong one of tuples (path, command), and of the commands within them."""
    # The first one stands last, so that it is taken first; each comes twice, ahead of and behind its inner ones.
    waiting = [(False, path, command) for path, command in reversed(commands)]
    while waiting:
        looked_within, path, command = waiting.pop()
        if looked_within:
            if not is_command(command):
                return path
        else:
            waiting.append((True, path, command))
            within = commands_within(command)
            waiting.extend([(False, path + way, inner) for way, inner in reversed(within)])
    return None


def check_script(script):
    if not is_script(script):
        raise InvalidTree(fresh(script))


def depth(tree):
    if is_script(tree):
        return len(levels(tree))
    if is_word(tree):
        return 1 + len(levels([command for _, command in commands_in_word(tree)]))
    raise InvalidTree(fresh(tree))


def levels(commands):
    """Returns the lists of the commands that stand equally deep, the outermost first."""
    found = []
    while commands:
        found.append(commands)
        commands = [inner for command in commands for _, inner in commands_within(command)]
    return found


def all_commands(script):
    return [command for level in levels(script) for command in level]


def commands_in(script):
    check_script(script)
    return len(all_commands(script))


def calls(script):
    check_script(script)
    firsts = [command[2][0] for command in all_commands(script) if command[0] == "do" and command[2] != []]
    return sorted({word[0][1] for word in firsts if len(word) == 1 and word[0][0] in ("bare", "held")})


def words_of(script):
    check_script(script)
    return words_in_script(script)


def words_in_script(script):
    """Returns new words, in the order in which they stand in the text of a script."""
    found = []
    for line in script_lines(script):
        words = [part for kind, part in line if kind == "word"]
        heres = [part for kind, part in line if kind == "here"]
        for word in words + heres:
            found.append(fresh(word))
            found.extend(words_in_pieces(word))
    return found


def words_in_pieces(pieces):
    found = []
    for piece in pieces:
        match piece:
            case ("wide", inner):
                found.extend(words_in_pieces(inner))
            case ("name", _, (_, _, word)):
                found.append(fresh(word))
                found.extend(words_in_pieces(word))
            case ("run", script):
                found.extend(words_in_script(script))
    return found
