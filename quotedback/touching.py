"""Which paths the commands of a script may read and write, by their words alone."""

from quotedback.checks import can_meet_paths
from quotedback.deeds import is_deed
from quotedback.names import TOOLS
from quotedback.paths import TOP, is_below, path_said
from quotedback.surewords import sure_text
from quotedback.trees import all_commands

# Stands for every path.
ANY = "*"


class Touched:
    """The paths that are read and written, found by commands that are done in a folder."""

    def __init__(self, folder):
        self.folder = folder
        self.paths_read = {}
        self.paths_written = {}

    def note(self, paths, text):
        """Notes the path that a text says, `None` for a text that is not known."""
        paths[ANY if text is None else path_said(self.folder, text)] = True

    def note_command(self, command):
        match command:
            case ("do", _, words, _):
                self.note_words(words)
                self.note_do([sure_text(word) for word in words])
            case ("each", _, words, _, _):
                self.note_words(words or [])
        if command[0] not in ("make", "pipe", "not", "and", "or"):
            self.note_turns(command[-1])

    def note_turns(self, turns):
        for _, mark, word in turns:
            if mark == "<":
                self.note(self.paths_read, sure_text(word))
            elif mark in (">", ">>"):
                self.note(self.paths_written, sure_text(word))

    def note_words(self, words):
        if any([can_meet_paths(word) for word in words]):
            self.paths_read[ANY] = True

    def note_do(self, texts):
        """Notes what a "do" touches, by the texts of its words, `None` for each that is not sure."""
        if texts == []:
            return
        rest = texts[1:]
        match texts[0]:
            case "cat":
                self.note_all(self.paths_read, rest)
            case "list":
                self.note_all(self.paths_read, rest or [""])
            case "pwd":
                self.note(self.paths_read, "")
            case "test":
                self.note_all(self.paths_read, paths_tested(rest))
            case "copy":
                self.note_copy(rest)
            case "tee" | "make" | "remove" | "move":
                self.note_all(self.paths_written, rest)
            case _:
                if texts[0] is None or texts[0] == "cd" or not (is_deed(texts[0]) or texts[0] in TOOLS):
                    self.note(self.paths_read, None)
                    self.note(self.paths_written, None)

    def note_all(self, paths, texts):
        for text in texts:
            self.note(paths, text)

    def note_copy(self, texts):
        if None in texts:
            self.note(self.paths_read, None)
            self.note(self.paths_written, None)
        self.note_all(self.paths_read, texts[:1])
        self.note_all(self.paths_written, texts[1:])

    def lists(self):
        """Returns the lists of the paths that are read and written."""
        if any([self.moves_folder(path) for path in self.paths_written]):
            self.note(self.paths_read, None)
            self.note(self.paths_written, None)
        return told_paths(self.paths_read), told_paths(self.paths_written)

    def moves_folder(self, path):
        """Tells whether a path is the folder or lies ahead of it, so that the folder may be another one behind it."""
        return self.folder != TOP and path != ANY and (path == self.folder or is_below(self.folder, path))


def told_paths(paths):
    return [ANY] if ANY in paths else sorted(paths)


def paths_tested(texts):
    """Returns the texts of the paths by which a `test` of some texts judges."""
    if None in texts:
        return [None]
    at = 0
    while at + 1 < len(texts) and texts[at] == "!":
        at += 1
    if len(texts) - at == 2 and texts[at] in ("-f", "-d"):
        return [texts[at + 1]]
    return []


def touched_by(script, folder):
    found = Touched(folder)
    for command in all_commands(script):
        found.note_command(command)
    return found.lists()
