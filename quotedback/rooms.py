"""Rooms: which ones there are, and what their names and places tell."""

from quotedback.copies import fresh
from quotedback.errors import InvalidRoom
from quotedback.names import is_name

USUAL_SEP = " \n"
GREATEST_STATUS = 255


def is_room(room):
    if len(room) != 5:
        return False
    names, _, _, status, paths = room
    if not are_names(names) or not is_status(status):
        return False
    return all([is_room_path(path) for path in paths]) and ascends(paths)


def check_room(room):
    if not is_room(room):
        raise InvalidRoom(fresh(room))


def are_names(names):
    return all([is_name(name) for name in names])


def is_status(status):
    return 0 <= status <= GREATEST_STATUS


def is_room_path(path):
    """Returns True for parts that are not empty, joined by `/`, maybe with one ahead."""
    told = path[1:] if path[:1] == "/" else path
    return "" not in told.split("/")


def ascends(texts):
    return all([one < other for one, other in zip(texts, texts[1:])])
