"""Where the words, scripts and commands within a tree stand, also in trees that are none."""


def parts_of(command):
    """Returns the tuples (path, kind, part) of what stands in a command, in the order of its tuple.

    The kind is "command" or "word"; the path has the indexes from the command to the part.
    """
    match command:
        case ("do", sets, words, turns):
            set_words = [([1, at, 1], "word", pair[1]) for at, pair in enumerate(sets)]
            return set_words + all_at([2], "word", words) + turn_words(3, turns)
        case ("make", _, body):
            return [([2], "command", body)]
        case ("pipe", commands):
            return all_at([1], "command", commands)
        case ("not", body):
            return [([1], "command", body)]
        case ("and" | "or", one, other):
            return [([1], "command", one), ([2], "command", other)]
    return block_parts(command)


def block_parts(command):
    """Returns what `parts_of` does, of the commands that have scripts."""
    match command:
        case ("group" | "apart", script, turns):
            return all_at([1], "command", script) + turn_words(2, turns)
        case ("if", arms, other, turns):
            return if_arms(arms) + all_at([2], "command", other) + turn_words(3, turns)
        case ("while" | "until", test, script, turns):
            return all_at([1], "command", test) + all_at([2], "command", script) + turn_words(3, turns)
        case ("each", _, words, script, turns):
            return all_at([2], "word", words) + all_at([3], "command", script) + turn_words(4, turns)
        case ("case", word, arms, turns):
            return [([1], "word", word)] + case_arms(arms) + turn_words(3, turns)
    return []


def all_at(path, kind, parts):
    """Returns the tuples of all parts of a list, none for `None`."""
    if parts is None:
        return []
    return [(path + [at], kind, part) for at, part in enumerate(parts)]


def turn_words(index, turns):
    return [([index, at, 2], "word", turn[2]) for at, turn in enumerate(turns)]


def if_arms(arms):
    found = []
    for at, arm in enumerate(arms):
        found.extend(all_at([1, at, 0], "command", arm[0]))
        found.extend(all_at([1, at, 1], "command", arm[1]))
    return found


def case_arms(arms):
    found = []
    for at, arm in enumerate(arms):
        found.extend(all_at([2, at, 0], "word", arm[0]))
        found.extend(all_at([2, at, 1], "command", arm[1]))
    return found


def scripts_in_word(pieces):
    """Returns the tuples (path, script) of the scripts in a word, also those in its wides and deeds."""
    found = []
    for at, piece in enumerate(pieces):
        match piece:
            case ("run", script):
                found.append(([at, 1], script))
            case ("wide", inner):
                found.extend([([at, 1] + path, deeper) for path, deeper in scripts_in_word(inner)])
            case ("name", _, ("lack" | "set" | "must" | "other" | "cut", _, word)):
                found.extend([([at, 2, 2] + path, deeper) for path, deeper in scripts_in_word(word)])
    return found


def commands_in_word(word):
    """Returns the tuples (path, command) of the nearest commands in a word."""
    found = []
    for path, script in scripts_in_word(word):
        found.extend([(path + [at], command) for at, command in enumerate(script)])
    return found


def commands_within(command):
    """Returns the tuples (path, command) of the nearest commands in a command, those in its words, too."""
    found = []
    for path, kind, part in parts_of(command):
        if kind == "command":
            found.append((path, part))
        else:
            found.extend([(path + way, inner) for way, inner in commands_in_word(part)])
    return found
