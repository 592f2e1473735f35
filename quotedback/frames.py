"""The frames of a run: what is under way around the next thing, and what is put back behind it."""

from quotedback.paths import nearest_folder


class Work:
    """A thing whose words are being expanded, job by job, and whose turns may be done already."""

    def __init__(self, thing, jobs, descriptors):
        self.thing = thing
        self.jobs = jobs
        self.descriptors = descriptors
        self.at = 0
        # Of the word that is being expanded: the names ahead of it, what its scripts have written so far, and how
        # many of the names that it sets have been told.
        self.names = None
        self.answers = []
        self.told_sets = 0
        self.fields = []
        self.subject = ""
        self.place = None
        self.names_ahead = {}
        self.run_status = 0

    def copied(self):
        twin = Work(self.thing, self.jobs, self.descriptors)
        twin.at = self.at
        twin.names = self.names
        twin.answers = list(self.answers)
        twin.told_sets = self.told_sets
        twin.fields = list(self.fields)
        twin.subject = self.subject
        twin.place = self.place
        twin.names_ahead = self.names_ahead
        twin.run_status = self.run_status
        return twin

    def put_back(self, runner):
        runner.descriptors = self.descriptors
        put_names_back(runner, self.names_ahead)


class Turned:
    """A command with scripts whose turns are done."""

    def __init__(self, descriptors):
        self.descriptors = descriptors

    def copied(self):
        return self

    def put_back(self, runner):
        runner.descriptors = self.descriptors


class Loop:
    """A loop: the place of its next round, and the one behind it."""

    def __init__(self, top, behind, fields):
        self.top = top
        self.behind = behind
        self.fields = fields
        self.is_in_script = False
        self.status = 0

    def copied(self):
        twin = Loop(self.top, self.behind, self.fields)
        twin.is_in_script = self.is_in_script
        twin.status = self.status
        return twin

    def enter_script(self, is_in_script):
        """Tells whether its script is done now, or its condition."""
        self.is_in_script = is_in_script

    def keep_status(self, status):
        self.status = status

    def next_field(self):
        """Takes the field of the round that begins."""
        self.is_in_script = True
        field = self.fields[0]
        self.fields = self.fields[1:]
        return field

    def put_back(self, runner):
        """Nothing was changed for a loop."""


class Call:
    """A function: what is put back behind it, and where it goes on."""

    def __init__(self, runner, work):
        self.arguments = runner.arguments
        self.names_ahead = work.names_ahead
        self.descriptors = work.descriptors
        self.code = runner.code
        self.at = runner.at

    def copied(self):
        return self

    def put_back(self, runner):
        runner.arguments = self.arguments
        runner.descriptors = self.descriptors
        runner.code = self.code
        runner.at = self.at
        runner.deep -= 1
        put_names_back(runner, self.names_ahead)


class Copy:
    """A copy, of a kind "apart", "side", "last side" or "run": what lies around it, and where it goes on."""

    def __init__(self, kind, runner, behind):
        self.kind = kind
        self.folder = runner.folder
        self.names = runner.names
        self.arguments = runner.arguments
        self.status = runner.status
        self.functions = runner.functions
        self.descriptors = runner.descriptors
        self.code = runner.code
        self.at = behind
        self.stream = None

    def copied(self):
        return self

    def put_back(self, runner):
        runner.folder = nearest_folder(runner.ground.files, self.folder)
        runner.names = self.names
        runner.arguments = self.arguments
        runner.status = self.status
        runner.functions = self.functions
        runner.descriptors = self.descriptors
        runner.code = self.code
        runner.at = self.at
        runner.deep -= 1


def put_names_back(runner, names_ahead):
    """Gives names what they were, `None` for those that were not set."""
    if names_ahead == {}:
        return
    names = {name: text for name, text in runner.names.items() if name not in names_ahead}
    for name, text in names_ahead.items():
        if text is not None:
            names[name] = text
    runner.names = names
