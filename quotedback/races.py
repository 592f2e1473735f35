"""Which paths scripts touch, and which orders of the sides of a pipe race."""

from itertools import permutations

from quotedback.copies import fresh
from quotedback.errors import InvalidPath, InvalidTree
from quotedback.paths import TOP, is_below, is_path
from quotedback.runs import pipe_in_turns
from quotedback.touching import ANY, touched_by
from quotedback.trees import check_script, is_script


def touched(script, folder):
    check_script(script)
    check_folder(folder)
    return touched_by(script, folder)


def check_folder(folder):
    if folder != TOP and not is_path(folder):
        raise InvalidPath(folder)


def check_pipe(pipe):
    if pipe[0] != "pipe" or not is_script([pipe]):
        raise InvalidTree(fresh(pipe))


def is_apart(pipe, folder):
    check_pipe(pipe)
    check_folder(folder)
    told = [touched_by([command], folder) for command in pipe[1]]
    for at, (_, written) in enumerate(told):
        for other, (read, written_there) in enumerate(told):
            if other != at and any([meet(one, two) for one in written for two in read + written_there]):
                return False
    return True


def meet(one, two):
    """Tells whether one of two paths is the other one, or lies above it."""
    return ANY in (one, two) or one == two or is_below(one, two) or is_below(two, one)


def race(pipe, world, text, limit):
    check_pipe(pipe)
    first = list(range(len(pipe[1])))
    usual = None
    for told in permutations(first):
        order = list(told)
        files, out, _, status = pipe_in_turns(pipe[1], world, text, order, limit)
        if usual is None:
            usual = (files, out, status)
        elif (files, out, status) != usual:
            return (first, order)
    return None
