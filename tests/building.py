"""Short ways to tell the trees of the tests."""


def bare(text):
    return [("bare", text)]


def do(*texts, sets=(), turns=()):
    """A "do" whose words are bare texts, or words as they are."""
    words = [bare(text) if isinstance(text, str) else text for text in texts]
    return ("do", [(name, bare(word) if isinstance(word, str) else word) for name, word in sets], words, list(turns))


def run(*commands):
    return ("run", list(commands))


def here(*pieces):
    return (0, "<<", [("wide", list(pieces))])


def held_here(text):
    return (0, "<<", [("held", text)])


def name(text, *deed):
    return ("name", text, deed)


A, B, C, D = do("a"), do("b"), do("c"), do("d")
WRONG = ("do", [], [], [])


def in_word(command):
    """A word in which a command stands within a deed, within a wide."""
    return [("wide", [("name", "x", ("lack", False, [("run", [command])]))])]


def every_command():
    """One right command of each kind, by its first text."""
    return {
        "do": do("a", sets=[("x", "1")], turns=[(1, ">", bare("f"))]),
        "make": ("make", "f", ("group", [A], [])),
        "pipe": ("pipe", [A, B]),
        "not": ("not", A),
        "and": ("and", A, B),
        "or": ("or", A, B),
        "group": ("group", [A], []),
        "apart": ("apart", [A], []),
        "if": ("if", [([A], [B])], [C], []),
        "while": ("while", [A], [B], []),
        "until": ("until", [A], [B], []),
        "each": ("each", "x", [bare("a")], [A], []),
        "case": ("case", bare("a"), [([bare("b")], [A])], []),
    }


def around(command):
    """Tuples (script, path) in each of which a command stands at another kind of place, at that path."""
    word = in_word(command)
    way = [0, 1, 0, 2, 2, 0, 1, 0]
    return [
        ([command], [0]),
        ([A, command], [1]),
        ([do("a", sets=[("x", "1"), ("y", word)])], [0, 1, 1, 1] + way),
        ([do("a", word)], [0, 2, 1] + way),
        ([do("a", turns=[(1, ">", bare("f")), (2, ">>", word)])], [0, 3, 1, 2] + way),
        ([do("a", turns=[here(run(command), ("plain", "\n"))])], [0, 3, 0, 2, 0, 1, 0, 1, 0]),
        ([("make", "f", ("group", [command], []))], [0, 2, 1, 0]),
        ([("pipe", [A, ("group", [command], [])])], [0, 1, 1, 1, 0]),
        ([("not", ("apart", [A, command], []))], [0, 1, 1, 1]),
        ([("and", ("group", [command], []), A)], [0, 1, 1, 0]),
        ([("or", A, ("group", [command], []))], [0, 2, 1, 0]),
        ([("group", [A], [(1, ">", word)])], [0, 2, 0, 2] + way),
        ([("apart", [A], [(1, ">", word)])], [0, 2, 0, 2] + way),
        ([("if", [([A], [B]), ([command], [B])], None, [])], [0, 1, 1, 0, 0]),
        ([("if", [([A], [B, command])], None, [])], [0, 1, 0, 1, 1]),
        ([("if", [([A], [B])], [command], [])], [0, 2, 0]),
        ([("if", [([A], [B])], None, [(1, ">", word)])], [0, 3, 0, 2] + way),
        ([("while", [command], [A], [])], [0, 1, 0]),
        ([("while", [A], [command], [])], [0, 2, 0]),
        ([("until", [A], [B], [(1, ">", word)])], [0, 3, 0, 2] + way),
        ([("each", "x", [bare("a"), word], [A], [])], [0, 2, 1] + way),
        ([("each", "x", None, [command], [])], [0, 3, 0]),
        ([("each", "x", [], [A], [(1, ">", word)])], [0, 4, 0, 2] + way),
        ([("case", word, [], [])], [0, 1] + way),
        ([("case", bare("a"), [([bare("b"), word], [])], [])], [0, 2, 0, 0, 1] + way),
        ([("case", bare("a"), [([bare("b")], []), ([bare("c")], [command])], [])], [0, 2, 1, 1, 0]),
        ([("case", bare("a"), [], [(1, ">", word)])], [0, 3, 0, 2] + way),
    ]


def lists_in(tree):
    """The numbers that Python gives to all lists and dicts in a tree, as often as they stand in it."""
    if isinstance(tree, dict):
        return [id(tree)] + [number for part in tree.values() for number in lists_in(part)]
    if isinstance(tree, (list, tuple)):
        within = [number for part in tree for number in lists_in(part)]
        return ([id(tree)] if isinstance(tree, list) else []) + within
    return []
