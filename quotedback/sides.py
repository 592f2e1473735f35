"""The commands of a pipe done side by side, step by step."""

from quotedback.compiling import things_of_command
from quotedback.copies import fresh
from quotedback.errors import TooLong
from quotedback.grounds import Ground, Waits
from quotedback.runner import Runner
from quotedback.stepping import settle, take_step


class Sides:
    """The sides of a pipe, which share a ground; side K reads the stream K."""

    def __init__(self, commands, told, text):
        self.ground = Ground(dict(told[0]))
        self.runners = []
        for at, command in enumerate(commands):
            self.ground.new_stream(text if at == 0 else "", at > 0)
            runner = Runner(things_of_command(command), told, self.ground)
            output = ("whole", 1) if at == len(commands) - 1 else ("writes", at + 1)
            runner.descriptors = (("reads", at), output, ("whole", 2))
            runner.deep = 1
            self.runners.append(runner)

    def is_done(self):
        return all([runner.is_ended for runner in self.runners])

    def settle_all(self):
        for at, runner in enumerate(self.runners):
            settle(runner)
            self.note_end(at)

    def note_end(self, at):
        """Finds what has changed for the others when a side has gone on."""
        if self.runners[at].is_ended:
            self.ground.lose_stream(at)
            if at + 1 < len(self.runners):
                self.ground.end_stream(at + 1)
        for runner in self.runners:
            runner.find_folder()

    def can_step(self, at):
        """Does a step of a side, and tells whether it could."""
        runner = self.runners[at]
        if runner.is_ended:
            return False
        trial = runner.copied()
        try:
            take_step(trial)
        except Waits:
            return False
        runner.adopt(trial)
        self.note_end(at)
        return True


def run_sides(commands, world, text, order, limit):
    """Returns the files behind a pipe whose sides do steps by turns, its output, their errors, and its status."""
    try:
        sides = Sides(commands, fresh(world), text)
        sides.settle_all()
        many = 0
        while not sides.is_done():
            for at in order:
                if sides.can_step(at):
                    many += 1
                    if many > limit:
                        raise TooLong(limit)
    except TooLong:
        raise TooLong(limit) from None
    last = sides.runners[-1]
    return (dict(sides.ground.files), last.out_text, [runner.err_text for runner in sides.runners], last.status)
