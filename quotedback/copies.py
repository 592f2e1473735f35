"""Copies of trees that share no list and no dict with them."""


def fresh(thing):
    """Returns a thing whose lists and dicts, at any depth, are new, each in one place alone."""
    if isinstance(thing, dict):
        table = {}
        for key in thing:
            table[key] = fresh(thing[key])
        return table
    if not isinstance(thing, (list, tuple)):
        return thing
    parts = []
    for part in thing:
        parts.append(fresh(part))
    return parts if isinstance(thing, list) else tuple(parts)
