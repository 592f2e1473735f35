"""Scripts run in worlds: whole, step by step, side by side."""

from quotedback.compiling import things_of_script
from quotedback.copies import fresh
from quotedback.errors import Done, InvalidNumber, InvalidOrder, InvalidTree, TooLong
from quotedback.paths import files_without, is_below
from quotedback.runner import runner_of
from quotedback.sides import run_sides
from quotedback.stepping import next_fields_of, run_to_end, settle, take_step
from quotedback.trees import check_script, is_script
from quotedback.worlds import check_world, file_deeds, with_files


def run(script, world, text, limit):
    runner = run_done(script, world, text, limit)
    return (runner.standing_world(), runner.out_text, runner.err_text, fresh(runner.log))


def last_of(script, world, text, limit):
    return run_done(script, world, text, limit).status


def dry(script, world, text, limit):
    return file_deeds(world[0], run_done(script, world, text, limit).ground.files)


def run_done(script, world, text, limit):
    """Returns the run of a script that is done."""
    check_script(script)
    check_world(world)
    check_limit(limit)
    return ended_run(script, world, text, limit)


def check_limit(limit):
    if limit < 0:
        raise InvalidNumber(limit)


def ended_run(script, world, text, limit):
    runner = runner_of(things_of_script(script), world, text)
    run_to_end(runner, limit)
    return runner


def needed(script, world, text, limit):
    events = run_done(script, world, text, limit).log
    left = fresh(world)
    for name in sorted(world[2]):
        less = with_files(left, dict(left[0]))
        less[2].pop(name)
        if has_events(script, less, text, limit, events):
            left = less
    for path in sorted(world[0]):
        if path in left[0] and path != left[1] and not is_below(left[1], path):
            less = with_files(left, files_without(left[0], path))
            if has_events(script, less, text, limit, events):
                left = less
    return left


def has_events(script, world, text, limit, events):
    """Tells whether a run in a world has some events."""
    try:
        return ended_run(script, world, text, limit).log == events
    except TooLong:
        return False


def pipe_in_turns(commands, world, text, order, limit):
    if not is_script([("pipe", commands)]):
        raise InvalidTree(fresh(commands))
    check_world(world)
    check_limit(limit)
    if sorted(set(order)) != list(range(len(commands))):
        raise InvalidOrder(list(order))
    return run_sides(commands, world, text, order, limit)


class Walk:
    """A run of a script that is done step by step."""

    def __init__(self, script, world, text):
        check_script(script)
        check_world(world)
        self.runner = runner_of(things_of_script(fresh(script)), world, text)
        settle(self.runner)

    def __len__(self):
        return len(range(self.runner.steps))

    def step(self):
        if self.runner.is_ended:
            raise Done(0)
        # What is too great raises an error on the way, and then nothing is to change.
        behind = self.runner.copied()
        take_step(behind)
        self.runner = behind

    def is_done(self):
        return self.runner.is_ended

    def events(self):
        return fresh(self.runner.log)

    def standing(self):
        return self.runner.standing_world()

    def out(self):
        return self.runner.out_text

    def err(self):
        return self.runner.err_text

    def next_fields(self):
        return next_fields_of(self.runner)

    def copy(self):
        twin = Walk([], ({}, "/", {}, [], "", 0, {}), "")
        twin.runner = self.runner.copied()
        return twin
