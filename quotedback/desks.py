"""Desks: sessions of a person, line by line, with forks that are as if apart."""

from quotedback.copies import fresh
from quotedback.elder import with_elder
from quotedback.errors import DoubleName, InvalidName, NothingToUndo, UnknownName
from quotedback.names import DEEDS, TOOLS, is_name
from quotedback.races import touched
from quotedback.readings import read_script
from quotedback.runs import dry, run
from quotedback.worlds import check_world, world_room

MOST_STEPS = 300
FIRST_FORK = "main"
# Behind these the last word of a text begins; behind some of them, and spaces, it calls something.
WORD_ENDS = " \n;|&(<>"
CALL_ENDS = "\n;|&("
NOT_COMPLETED = "'\"$\\`"


class Desk:
    """A session: for each fork the list of its worlds, the last one that is now, and the lines of all forks."""

    def __init__(self, world):
        check_world(world)
        self.rows = {FIRST_FORK: [fresh(world)]}
        self.chosen = FIRST_FORK
        self.lines = []

    def __len__(self):
        return len(self.rows[self.chosen][1:])

    @property
    def world(self):
        """The world of the open fork."""
        return fresh(self.rows[self.chosen][-1])

    @property
    def fork(self):
        """The name of the open fork."""
        return self.chosen

    def forks(self):
        return sorted(self.rows)

    def enter(self, text):
        line = with_elder(text, self.lines)
        world, out, err, _ = run(read_script(line), self.rows[self.chosen][-1], "", MOST_STEPS)
        self.rows[self.chosen].append(world)
        self.lines.append(line)
        return (out, err, world[5])

    def history(self):
        return list(self.lines)

    def undo(self):
        if self.rows[self.chosen][1:] == []:
            raise NothingToUndo(0)
        self.rows[self.chosen].pop()

    def branch(self, name):
        if not is_name(name):
            raise InvalidName(name)
        if name in self.rows:
            raise DoubleName(name)
        # Worlds that are held are never changed, so that forks may share them.
        self.rows[name] = list(self.rows[self.chosen])

    def switch(self, name):
        if name not in self.rows:
            raise UnknownName(name)
        self.chosen = name

    def dry_line(self, text):
        script = read_script(with_elder(text, self.lines))
        return dry(script, self.rows[self.chosen][-1], "", MOST_STEPS)

    def plan(self, text):
        script = read_script(with_elder(text, self.lines))
        return touched(script, self.rows[self.chosen][-1][1])

    def complete(self, text):
        start = len(text)
        while start > 0 and text[start - 1] not in WORD_ENDS:
            start -= 1
        word = text[start:]
        if any([sign in NOT_COMPLETED for sign in word]):
            return []
        ahead = text[:start].rstrip(" ")
        world = self.rows[self.chosen][-1]
        if ahead == "" or ahead[-1] in CALL_ENDS:
            found = sorted(list(DEEDS) + list(TOOLS) + list(world[6]))
        else:
            found = world_room(world)[4]
        return [one for one in found if one.startswith(word)]
