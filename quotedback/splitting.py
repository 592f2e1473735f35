"""Signs cut to fields, and fields that give way to paths."""

from quotedback.machines import Machine
from quotedback.patterns import pattern_of

BLANKS = " \n"
PATTERN_STARTS = "*?["
SLASH = ("one", "/")


def cut_to_fields(signs, separators):
    """Returns the list of the lists of the tuples (sign, mark) of the fields."""
    fields = []
    field = []
    is_there = False
    at = 0
    while at < len(signs):
        sign, mark = signs[at]
        if mark == "cut" or is_separator(signs, at, separators):
            at, ends_any = separator_end(signs, at, separators)
            if is_there or ends_any:
                fields.append(field)
            field = []
            is_there = False
        else:
            if sign != "":
                field.append(signs[at])
            is_there = True
            at += 1
    if is_there:
        fields.append(field)
    return fields


def is_separator(signs, at, separators):
    return at < len(signs) and signs[at][1] == "loose" and signs[at][0] in separators


def separator_end(signs, at, separators):
    """Returns where the separator ends that begins at a place, and whether it ends a field without signs, too."""
    if signs[at][1] == "cut":
        return at + 1, False
    stop = blanks_end(signs, at, separators)
    if not is_separator(signs, stop, separators):
        return stop, False
    return blanks_end(signs, stop + 1, separators), True


def blanks_end(signs, at, separators):
    while is_separator(signs, at, separators) and signs[at][0] in BLANKS:
        at += 1
    return at


def field_text(field):
    return "".join([sign for sign, _ in field])


def can_give_way(field):
    return any([mark != "firm" and sign in PATTERN_STARTS for sign, mark in field])


def with_paths(fields, paths):
    """Returns the texts of fields, or all the paths to which they give way."""
    texts = []
    for field in fields:
        found = met_paths(field, paths) if can_give_way(field) else []
        texts.extend(found or [field_text(field)])
    return texts


def met_paths(field, paths):
    machines = [Machine([part]) for part in parts_told(pattern_of(field))]
    return [path for path in paths if meets_path(machines, path)]


def meets_path(machines, path):
    texts = path.split("/")
    return len(texts) == len(machines) and all([machine.lets_by(text) for machine, text in zip(machines, texts)])


def parts_told(pattern):
    """Returns the patterns of the parts of a path, between the slashes of its pattern."""
    parts = [[]]
    for piece in pattern:
        if piece == SLASH:
            parts.append([])
        else:
            parts[-1].append(piece)
    return parts
