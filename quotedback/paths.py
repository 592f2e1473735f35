"""Paths of worlds: which texts are some, and what they tell of files and folders."""

TOP = "/"


def is_path(path):
    """Returns True for `/` and parts, joined by `/`; the top is none of them."""
    return path[:1] == "/" and all([part not in ("", ".", "..") for part in path[1:].split("/")])


def parent_of(path):
    """Returns the folder in which a path lies."""
    return path[:path.rfind("/")] or TOP


def is_below(path, folder):
    """Tells whether a path lies in a folder, or deeper in it; each path does so below the top."""
    return folder == TOP or path.startswith(folder + "/")


def is_folder(files, path):
    return path == TOP or (path in files and files[path] is None)


def path_said(folder, text):
    """Returns the path that a text says, from a folder, if it does not begin with `/`."""
    parts = [] if text[:1] == "/" or folder == TOP else folder[1:].split("/")
    for part in text.split("/"):
        if part == "..":
            parts = parts[:-1]
        elif part not in ("", "."):
            parts.append(part)
    return TOP + "/".join(parts)


def nearest_folder(files, folder):
    """Returns a folder, if it is there, otherwise the nearest one ahead of it that is, or the top."""
    while not is_folder(files, folder):
        folder = parent_of(folder)
    return folder


def can_put(files, path, text):
    """Tells whether a file of a text, or for `None` a folder, can be put where a path says."""
    if not is_path(path) or not is_folder(files, parent_of(path)):
        return False
    return path not in files or (text is not None and files[path] is not None)


def files_without(files, path):
    """Returns the files without a path and all below it."""
    return {one: files[one] for one in files if one != path and not is_below(one, path)}


def files_moved(files, path, other):
    """Returns the files in which a path, with all below it, is another one."""
    moved_files = {}
    for one in files:
        is_moved = one == path or is_below(one, path)
        moved_files[other + one[len(path):] if is_moved else one] = files[one]
    return moved_files
