"""Worlds: which ones there are, and how their files are looked at and changed."""

from quotedback.copies import fresh
from quotedback.errors import InvalidPath, InvalidWorld
from quotedback.paths import (
    TOP, can_put, files_moved, files_without, is_below, is_folder, is_path, nearest_folder, parent_of, path_said,
)
from quotedback.rooms import are_names, is_status
from quotedback.trees import is_script


def is_world(world):
    if len(world) != 7:
        return False
    files, folder, names, _, _, status, functions = world
    if not all([is_path(path) and is_folder(files, parent_of(path)) for path in files]):
        return False
    if not is_folder(files, folder) or not are_names(names) or not is_status(status):
        return False
    return all([is_script([("make", name, body)]) for name, body in functions.items()])


def check_world(world):
    if not is_world(world):
        raise InvalidWorld(fresh(world))


def path_of(world, text):
    check_world(world)
    return path_said(world[1], text)


def room_of(world):
    check_world(world)
    return world_room(world)


def world_room(world):
    """Returns the new room of a world that is one."""
    files, folder, names, arguments, title, status, _ = world
    return (dict(names), list(arguments), title, status, room_paths(files, folder))


def room_paths(files, folder):
    """Returns the ascending list of all paths, and of those below a folder as they are told from there."""
    behind = 1 if folder == TOP else len(folder) + 1
    return sorted(list(files) + [path[behind:] for path in files if is_below(path, folder)])


def below(world, path):
    check_world(world)
    if not is_folder(world[0], path):
        raise InvalidPath(path)
    return parts_below(world[0], path)


def parts_below(files, folder):
    return sorted([path[path.rfind("/") + 1:] for path in files if parent_of(path) == folder])


def with_file(world, path, text):
    check_world(world)
    return with_files(world, files_with(world[0], path, text))


def without(world, path):
    check_world(world)
    return with_files(world, files_behind_loss(world[0], path))


def moved(world, path, other):
    check_world(world)
    for told in (path, other):
        if not is_path(told):
            raise InvalidPath(told)
    files = world[0]
    if path not in files:
        raise InvalidPath(path)
    if other in files or is_below(other, path) or not is_folder(files, parent_of(other)):
        raise InvalidPath(other)
    return with_files(world, files_moved(files, path, other))


def files_with(files, path, text):
    if not can_put(files, path, text):
        raise InvalidPath(path)
    changed = dict(files)
    changed[path] = text
    return changed


def files_behind_loss(files, path):
    if path not in files:
        raise InvalidPath(path)
    return files_without(files, path)


def with_files(world, files):
    """Returns a new world that has other files, in the nearest folder that is there."""
    _, folder, names, arguments, title, status, functions = world
    place = nearest_folder(files, folder)
    return (files, place, dict(names), list(arguments), title, status, fresh(functions))


def deeds_between(one, other):
    check_world(one)
    check_world(other)
    return file_deeds(one[0], other[0])


def file_deeds(ahead, behind):
    """Returns the file deeds that make other files of some files."""
    deeds = []
    left = ahead
    for path in sorted(ahead):
        if path in left and (path not in behind or (ahead[path] is None) != (behind[path] is None)):
            deeds.append(("lost", path))
            left = files_without(left, path)
    for path in sorted(behind):
        if path not in left or left[path] != behind[path]:
            deeds.append(("folder", path) if behind[path] is None else ("file", path, behind[path]))
    return deeds


def done(world, deeds):
    check_world(world)
    changed = with_files(world, dict(world[0]))
    for deed in deeds:
        # One by one, since each loss may take the folder of the world away.
        changed = with_files(changed, files_done(changed[0], deed))
    return changed


def files_done(files, deed):
    if deed[0] == "lost":
        return files_behind_loss(files, deed[1])
    return files_with(files, deed[1], deed[2] if deed[0] == "file" else None)


def undone(world, deeds):
    return file_deeds(done(world, deeds)[0], world[0])
