"""What all commands of a run share: the files, and the texts that are read and written."""

from quotedback.errors import ShellError

# Whatever in a run has more signs takes too many steps.
MOST_SIGNS = 4000


class Waits(ShellError):
    """A step that reads more than is there."""


class Stream:
    """A text that is still to be read; while it is open, more may come; if it is lost, nobody reads it any more."""

    def __init__(self, text, is_open):
        self.text = text
        self.is_open = is_open
        self.is_lost = False
        self.total = 0

    def copied(self):
        twin = Stream(self.text, self.is_open)
        twin.is_lost = self.is_lost
        twin.total = self.total
        return twin

    def has(self, lines):
        """Tells whether so many whole lines are there, or, for a number below 0, all that will come."""
        return not self.is_open or 0 <= lines <= self.text.count("\n")


class Ground:
    """The files, a dict that is never changed itself, and the streams, told by their numbers."""

    def __init__(self, files):
        self.files = files
        self.streams = []

    def new_stream(self, text, is_open):
        self.streams.append(Stream(text, is_open))
        return len(self.streams) - 1

    def put_files(self, files):
        self.files = files

    def end_stream(self, number):
        """Tells that nothing more will come."""
        stream = self.streams[number]
        stream.is_open = False

    def lose_stream(self, number):
        """Tells that nobody reads any more."""
        stream = self.streams[number]
        stream.is_lost = True

    def copied(self):
        twin = Ground(self.files)
        twin.streams = [stream.copied() for stream in self.streams]
        return twin

    def adopt(self, other):
        self.files = other.files
        self.streams = other.streams
