"""A run as it stands: where it is in its code, what holds there, and what has been told of it."""

from quotedback.copies import fresh
from quotedback.errors import TooLong
from quotedback.frames import Call, Copy, Loop
from quotedback.grounds import MOST_SIGNS, Ground, Waits
from quotedback.paths import nearest_folder
from quotedback.worlds import file_deeds, files_with

MOST_DEEP = 20


class Runner:
    """A run. Dicts and lists that it holds are not changed but replaced, so that copies may share them.

    A descriptor is a tuple: ("whole", number) writes to 1 or 2 of the whole script, ("file", path) to the end of a
    file, ("writes", stream) and ("reads", stream) to and from a stream, ("shut",) nowhere.
    """

    def __init__(self, code, told, ground):
        self.code = code
        self.at = 0
        self.ground = ground
        self.folder = told[1]
        self.names = told[2]
        self.arguments = told[3]
        self.title = told[4]
        self.status = told[5]
        self.functions = told[6]
        self.descriptors = (("shut",), ("whole", 1), ("whole", 2))
        self.frames = []
        self.deep = 0
        # The stream that the side of a pipe has written that was done last.
        self.carried = None
        self.log = []
        self.out_text = ""
        self.err_text = ""
        self.steps = 0
        self.limit = None
        self.is_ended = False

    def copied(self):
        """Returns a run of its own, with a ground of its own, that stands there."""
        told = (None, self.folder, self.names, self.arguments, self.title, self.status, self.functions)
        twin = Runner(self.code, told, self.ground.copied())
        twin.stand_like(self)
        twin.frames = [frame.copied() for frame in self.frames]
        twin.log = list(self.log)
        return twin

    def stand_like(self, other):
        self.at = other.at
        self.descriptors = other.descriptors
        self.frames = other.frames
        self.deep = other.deep
        self.carried = other.carried
        self.log = other.log
        self.out_text = other.out_text
        self.err_text = other.err_text
        self.steps = other.steps
        self.limit = other.limit
        self.is_ended = other.is_ended

    def adopt(self, other):
        """Stands as another one does; what shares the ground of this one goes on sharing it."""
        self.code = other.code
        self.folder = other.folder
        self.names = other.names
        self.arguments = other.arguments
        self.status = other.status
        self.functions = other.functions
        self.ground.adopt(other.ground)
        self.stand_like(other)

    def count_step(self):
        if self.steps == self.limit:
            raise TooLong(self.limit)
        self.steps += 1

    def set_name(self, name, text):
        check_size(text)
        self.names = {**self.names, name: text}
        self.log.append(("set", name, text))

    def take_name(self, name):
        self.names = {told: text for told, text in self.names.items() if told != name}
        self.log.append(("gone", name))

    def change_files(self, files):
        """Has other files, and tells what has become of them."""
        deeds = file_deeds(self.ground.files, files)
        for deed in deeds:
            if deed[0] == "file":
                check_size(deed[2])
        self.log.extend(deeds)
        self.ground.put_files(files)
        self.find_folder()

    def find_folder(self):
        self.folder = nearest_folder(self.ground.files, self.folder)

    def write(self, number, text):
        """Writes a text to a descriptor."""
        if text == "":
            return
        check_size(text)
        match self.descriptors[number]:
            case ("whole", 1):
                self.out_text += text
                self.log.append(("say", 1, text))
            case ("whole", 2):
                self.err_text += text
                self.log.append(("say", 2, text))
            case ("file", path):
                files = self.ground.files
                if path in files and files[path] is not None:
                    self.change_files(files_with(files, path, files[path] + text))
            case ("writes", stream):
                write_stream(self.ground.streams[stream], text)

    def text_at_hand(self, lines):
        """Returns what is left of what is read; more lines than are there are waited for."""
        stream = self.stream_read()
        if stream is None:
            return ""
        if not stream.has(lines):
            raise Waits(lines)
        return stream.text

    def leave_text(self, text):
        stream = self.stream_read()
        if stream is not None:
            stream.text = text

    def stream_read(self):
        match self.descriptors[0]:
            case ("reads", stream):
                return self.ground.streams[stream]
        return None

    def as_world(self):
        """Returns what deeds look at; nothing of it is copied."""
        files = self.ground.files
        return (files, self.folder, self.names, self.arguments, self.title, self.status, self.functions)

    def go_deeper(self):
        if self.deep == MOST_DEEP:
            raise TooLong(0)
        self.deep += 1

    def begin_copy(self, kind, behind):
        self.frames.append(Copy(kind, self, behind))
        self.go_deeper()

    def catch_output(self):
        """Makes the copy that has begun write to a stream of its own."""
        frame = self.frames[-1]
        frame.stream = self.ground.new_stream("", True)
        self.descriptors = (self.descriptors[0], ("writes", frame.stream), self.descriptors[2])

    def end_copy(self):
        frame = self.frames.pop()
        status = self.status
        frame.put_back(self)
        if frame.stream is not None:
            self.ground.end_stream(frame.stream)
        match frame.kind:
            case "apart" | "last side":
                self.status = status
            case "side":
                self.carried = frame.stream
            case "run":
                work = self.frames[-1]
                work.answers.append(self.ground.streams[frame.stream].text)
                work.run_status = status

    def end_code(self):
        """Leaves what stands in code of its own: a function, the script of a "run", or all."""
        if self.frames == []:
            self.end_all()
        elif isinstance(self.frames[-1], Copy):
            self.end_copy()
        else:
            self.frames.pop().put_back(self)

    def end_all(self):
        self.is_ended = True
        self.log.append(("end", self.status))

    def leave(self, ends_function):
        """Ends the copy, or all, or, if that comes first and may be ended, the function."""
        while self.frames != []:
            if isinstance(self.frames[-1], Copy):
                self.end_copy()
                return
            frame = self.frames.pop()
            frame.put_back(self)
            if ends_function and isinstance(frame, Call):
                return
        self.end_all()

    def loops_around(self):
        """Returns the places in the list of frames of the loops that can be left, the outermost first."""
        found = []
        for at, frame in enumerate(self.frames):
            if isinstance(frame, (Call, Copy)):
                found = []
            elif isinstance(frame, Loop):
                found.append(at)
        return found

    def leave_loops(self, kind, count):
        """Leaves so many loops, or goes on with the round behind in the outermost of them."""
        loops = self.loops_around()
        if loops == []:
            return
        target = loops[max(0, len(loops) - count)]
        while len(self.frames) > target + 1:
            self.frames.pop().put_back(self)
        loop = self.frames[target]
        if kind == "break":
            self.frames.pop()
            self.at = loop.behind
        else:
            if loop.is_in_script:
                loop.status = 0
            self.at = loop.top

    def standing_world(self):
        """Returns the new world of the outermost script as it is."""
        held = self
        for frame in reversed(self.frames):
            if isinstance(frame, Copy):
                held = frame
        files = self.ground.files
        folder = nearest_folder(files, held.folder)
        names, arguments = dict(held.names), list(held.arguments)
        return (dict(files), folder, names, arguments, self.title, held.status, fresh(held.functions))


def check_size(text):
    if len(text) > MOST_SIGNS:
        raise TooLong(0)


def write_stream(stream, text):
    stream.total += len(text)
    if stream.total > MOST_SIGNS:
        raise TooLong(0)
    if not stream.is_lost:
        stream.text += text


def runner_of(code, told, text):
    """Returns a run that stands ahead of all its code, in a world that is told, and reads a text."""
    runner = Runner(code, fresh(told), Ground(dict(told[0])))
    number = runner.ground.new_stream(text, False)
    runner.descriptors = (("reads", number), ("whole", 1), ("whole", 2))
    return runner
