"""The texts of which words are made: signs, names, places, key words, and the names of deeds and tools."""

DIGITS = "0123456789"
NAME_STARTS = "abcdefghijklmnopqrstuvwxyzABCDEFGHIJKLMNOPQRSTUVWXYZ_"
NAME_SIGNS = "abcdefghijklmnopqrstuvwxyzABCDEFGHIJKLMNOPQRSTUVWXYZ_0123456789"
BARE_SIGNS = "abcdefghijklmnopqrstuvwxyzABCDEFGHIJKLMNOPQRSTUVWXYZ0123456789./_-,:+@=*?[]!~"

PLACE_SIGNS = ("0", "#", "?", "@", "*")
ALL_ARGUMENTS = ("@", "*")

KEY_WORDS = (
    "if", "then", "elif", "else", "fi", "while", "until", "do", "done", "for", "in", "case", "esac", "{", "}", "!",
)
DEEDS = (
    ":", "true", "false", "echo", "read", "set", "shift", "unset", "cd", "pwd", "test",
    "break", "continue", "return", "exit",
)
TOOLS = (
    "cat", "keep", "drop", "first", "last", "order", "once", "count", "number", "swap", "part",
    "tee", "make", "remove", "move", "copy", "list",
)


def name_length(text):
    """Returns how many signs the longest name has with which a text begins, 0 if it begins with none."""
    if text == "" or text[0] not in NAME_STARTS:
        return 0
    length = 1
    while length < len(text) and text[length] in NAME_SIGNS:
        length += 1
    return length


def is_name(text):
    return text != "" and name_length(text) == len(text)


def is_place(text):
    if text in PLACE_SIGNS:
        return True
    return text != "" and text[0] != "0" and all([sign in DIGITS for sign in text])


def is_bare(text):
    return text != "" and all([sign in BARE_SIGNS for sign in text])


def begins_set(text):
    """Returns True if a text begins like a set, with a name and `=`."""
    length = name_length(text)
    return length > 0 and text[length:length + 1] == "="


def may_be_made(name):
    """Returns True if a function may have a name."""
    return is_name(name) and name not in DEEDS and name not in TOOLS and name not in KEY_WORDS
