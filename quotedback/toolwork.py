"""What each tool does with its fields, the files and what it reads."""

from quotedback.deeds import WRONG
from quotedback.filterwork import filter_lines, filter_told, is_number, lines_of, text_of
from quotedback.paths import (
    can_put, files_moved, files_without, is_below, is_folder, is_path, nearest_folder, parent_of, path_said,
)
from quotedback.worlds import parts_below

FILTERS = ("keep", "drop", "first", "last", "order", "once", "count", "number", "swap")
ALL_LINES = -1


class Job:
    """A tool at its work: the files as they are, what it has written, its status, what it has not read."""

    def __init__(self, files, folder, text):
        self.files = files
        self.folder = folder
        self.rest = text
        self.out_text = ""
        self.err_text = ""
        self.status = 0

    def path(self, field):
        return path_said(self.folder, field)

    def turn_down(self, field):
        self.err_text += field + ": no\n"
        self.status = 1

    def change(self, files):
        self.files = files
        self.folder = nearest_folder(files, self.folder)

    def read_all(self):
        text = self.rest
        self.rest = ""
        return text


def job_done(fields, files, folder, text):
    """Returns the job of a tool, told by its fields with its name, that is done."""
    job = Job(files, folder, text)
    if not is_right(fields[0], fields[1:]):
        job.err_text = fields[0] + ": wrong\n"
        job.status = WRONG
    elif fields[0] in FILTERS:
        do_filter(job, filter_told(fields))
    else:
        do_tool(job, fields[0], fields[1:])
    return job


def is_right(name, fields):
    """Tells whether a tool takes so many fields, and of such a kind."""
    match name:
        case "cat":
            return True
        case "make" | "remove":
            return fields != []
        case "move" | "copy":
            return len(fields) == 2
        case "tee":
            return len(fields) == 1
        case "list":
            return len(fields) <= 1
        case "part":
            return len(fields) == 2 and is_number(fields[0]) and fields[0] != "0" and len(fields[1]) == 1
    return filter_told([name] + fields) is not None


def lines_read_by_tool(fields):
    """Returns how many lines a tool reads, or `ALL_LINES`."""
    if fields[0] in ("make", "remove", "move", "copy", "list") or (fields[0] == "cat" and len(fields) > 1):
        return 0
    if not is_right(fields[0], fields[1:]):
        return 0
    return int(fields[1]) if fields[0] == "first" else ALL_LINES


def do_filter(job, one):
    if one[0] == "first":
        lines = lines_of(job.rest)[:one[1]]
        # The last line may lack its newline.
        job.rest = job.rest[len(text_of(lines)):]
    else:
        lines = filter_lines(one, lines_of(job.read_all()))
    job.out_text = text_of(lines)
    if one[0] in ("keep", "drop") and lines == []:
        job.status = 1


def do_tool(job, name, fields):
    match name:
        case "cat":
            write_files(job, fields)
        case "part":
            number, sign = fields
            job.out_text = text_of([part_of_line(line, int(number), sign) for line in lines_of(job.read_all())])
        case "tee":
            job.out_text = job.read_all()
            put(job, fields[0], job.out_text)
        case "make":
            for field in fields:
                put(job, field, None)
        case "remove":
            for field in fields:
                take_away(job, field)
        case "move" | "copy":
            put_elsewhere(job, name == "move", fields[0], fields[1])
        case "list":
            list_folder(job, fields[0] if fields != [] else "")


def write_files(job, fields):
    if fields == []:
        job.out_text = job.read_all()
    for field in fields:
        path = job.path(field)
        if path in job.files and job.files[path] is not None:
            job.out_text += job.files[path]
        else:
            job.turn_down(field)


def part_of_line(line, number, sign):
    parts = line.split(sign)
    return parts[number - 1] if number <= len(parts) else ""


def put(job, field, text):
    """Puts a file of a text, or for `None` a folder, where a field says."""
    path = job.path(field)
    if can_put(job.files, path, text):
        job.change({**job.files, path: text})
    else:
        job.turn_down(field)


def take_away(job, field):
    path = job.path(field)
    if path in job.files:
        job.change(files_without(job.files, path))
    else:
        job.turn_down(field)


def put_elsewhere(job, is_move, field, other_field):
    """Moves or copies what is at a path, with all below it, to another one."""
    path, other = job.path(field), job.path(other_field)
    if path not in job.files:
        job.turn_down(field)
    elif not takes_in(job.files, path, other, is_move):
        job.turn_down(other_field)
    elif is_move:
        job.change(files_moved(job.files, path, other))
    else:
        here = {one: job.files[one] for one in job.files if one == path or is_below(one, path)}
        job.change({**job.files, **files_moved(here, path, other)})


def takes_in(files, path, other, is_move):
    """Tells whether what is at a path can be put at another one."""
    if not is_path(other) or is_below(other, path) or not is_folder(files, parent_of(other)):
        return False
    return other not in files or (not is_move and files[path] is not None and files[other] is not None)


def list_folder(job, field):
    path = job.path(field)
    if is_folder(job.files, path):
        job.out_text = text_of(parts_below(job.files, path))
    else:
        job.turn_down(field)
