"""A plain shell to hold runs against: it walks the tree by Python's own calls, and has no places, frames and jobs."""

from quotedback.deedwork import answer_of
from quotedback.errors import DividedByZero, NoInteger, Refused, TooGreat
from quotedback.expanding import Expansion, joined_pattern, joined_text
from quotedback.patterns import meets
from quotedback.splitting import cut_to_fields, with_paths
from quotedback.tools import is_tool, tool
from quotedback.worlds import deeds_between, room_of


class TooMuch(Exception):
    pass


class Leaving(Exception):
    def __init__(self, kind, number):
        super().__init__(kind)
        self.kind = kind
        self.number = number


class Reader:
    def __init__(self, text):
        self.text = text


class Buffer:
    def __init__(self):
        self.text = ""


class Place:
    """What a copy is a copy of."""

    def __init__(self, folder, names, arguments, status, functions):
        self.folder = folder
        self.names = dict(names)
        self.arguments = list(arguments)
        self.status = status
        self.functions = dict(functions)

    def copy(self):
        return Place(self.folder, self.names, self.arguments, self.status, self.functions)


class PlainExpansion(Expansion):
    def __init__(self, shell, place, ends):
        super().__init__((place.names, place.arguments, shell.title, place.status, []), [])
        self.shell = shell
        self.place = place
        self.fds = ends
        self.names = place.names

    def set_name(self, name, text):
        self.shell.set(self.place, name, text)

    def written(self, script):
        buffer = Buffer()
        inner = self.place.copy()
        self.shell.run_status = self.shell.copied(inner, lambda: self.shell.script(script, inner, [self.fds[0], buffer, self.fds[2]], 0))
        self.place.folder = self.shell.nearest(self.place.folder)
        return buffer.text.rstrip("\n")


class PlainShell:
    def __init__(self, world, text, limit):
        self.files, folder, names, arguments, self.title, status, functions = world
        self.files = dict(self.files)
        self.top = Place(folder, names, arguments, status, functions)
        self.text = text
        self.limit = limit
        self.events = []
        self.said = {1: "", 2: ""}
        self.steps = 0
        self.deep = 0
        self.run_status = None

    def world(self, place):
        return (dict(self.files), self.nearest(place.folder), dict(place.names), list(place.arguments), self.title, place.status, dict(place.functions))

    def nearest(self, folder):
        while folder != "/" and not (folder in self.files and self.files[folder] is None):
            folder = folder.rpartition("/")[0] or "/"
        return folder

    def step(self):
        self.steps += 1
        if self.steps > self.limit:
            raise TooMuch

    def small(self, text):
        if len(text) > 4000:
            raise TooMuch

    def set(self, place, name, text):
        self.small(text)
        place.names[name] = text
        self.events.append(("set", name, text))

    def become(self, place, files):
        one = (self.files, "/", {}, [], "", 0, {})
        other = (files, "/", {}, [], "", 0, {})
        deeds = deeds_between(one, other)
        for deed in deeds:
            if deed[0] == "file":
                self.small(deed[2])
        self.events += deeds
        self.files = files
        place.folder = self.nearest(place.folder)

    def write(self, place, end, text):
        if text == "":
            return
        self.small(text)
        if isinstance(end, Buffer):
            end.text += text
            self.small(end.text)
        elif end in (1, 2):
            self.said[end] += text
            self.events.append(("say", end, text))
        elif isinstance(end, str) and self.files.get(end) is not None:
            self.become(place, {**self.files, end: self.files[end] + text})

    def copied(self, place, do):
        """Does something in a copy, and gives its status."""
        self.deeper()
        try:
            do()
        except Leaving as leaving:
            assert leaving.kind in ("exit", "return")
        self.deep -= 1
        return place.status

    def deeper(self):
        self.deep += 1
        if self.deep > 20:
            raise TooMuch

    def whole(self, script):
        deep = self.deep
        try:
            self.script(script, self.top, [Reader(self.text), 1, 2], 0)
        except Leaving:
            self.deep = deep
        self.events.append(("end", self.top.status))

    def script(self, script, place, ends, loops):
        if script == []:
            place.status = 0
        for command in script:
            self.command(command, place, ends, loops)

    def refusing(self, place, ends, do):
        """Does something that may be refused, which ends the run or copy."""
        try:
            return do()
        except Refused as refused:
            line = refused.value[0] + ": " + refused.value[1]
        except (NoInteger, DividedByZero, TooGreat):
            line = "bad sum"
        self.write(place, ends[2], line + "\n")
        place.status = 1
        raise Leaving("exit", 1)

    def signs(self, word, place, ends):
        return PlainExpansion(self, place, ends).signs_of(word, False)

    def joined(self, word, place, ends):
        return self.refusing(place, ends, lambda: joined_text(self.signs(word, place, ends)))

    def fields(self, words, place, ends):
        found = []
        for word in words:
            signs = self.refusing(place, ends, lambda: self.signs(word, place, ends))
            paths = room_of(self.world(place))[4]
            found += with_paths(cut_to_fields(signs, place.names.get("SEP", " \n")), paths)
            if len(found) > 200 or any(len(field) > 4000 for field in found):
                raise TooMuch
        return found

    def turned(self, turns, place, ends):
        """Returns the ends behind turns, `None` if one can't be done. The list it is told is changed on the way."""
        for number, mark, word in turns:
            if mark == ">&":
                ends[number] = None if word[0][1] == "-" else ends[int(word[0][1])]
                continue
            text = self.joined(word, place, ends)
            path = self.path(place, text)
            if mark == "<<":
                ends[number] = Reader(text)
                continue
            folder = path.rpartition("/")[0]
            there = self.files.get(path) is not None
            can = there or (mark != "<" and path != "/" and path not in self.files and (folder == "" or (folder in self.files and self.files[folder] is None)))
            if not can:
                self.write(place, ends[2], text + ": no\n")
                place.status = 1
                return False
            if mark == "<":
                ends[number] = Reader(self.files[path])
            else:
                if mark == ">" or not there:
                    self.become(place, {**self.files, path: ""})
                ends[number] = path
        return True

    def path(self, place, text):
        parts = [] if text.startswith("/") else place.folder.split("/")
        found = []
        for part in parts + text.split("/"):
            if part == "..":
                found = found[:-1]
            elif part not in ("", "."):
                found.append(part)
        return "/" + "/".join(found)

    def command(self, command, place, ends, loops):
        kind = command[0]
        if kind == "do":
            self.do(command, place, list(ends), loops)
        elif kind == "make":
            place.functions[command[1]] = command[2]
            place.status = 0
        elif kind == "pipe":
            self.pipe(command[1], place, ends)
        elif kind == "not":
            self.command(command[1], place, ends, loops)
            place.status = 0 if place.status else 1
        elif kind in ("and", "or"):
            self.command(command[1], place, ends, loops)
            if (place.status == 0) == (kind == "and"):
                self.command(command[2], place, ends, loops)
        elif kind == "apart":
            inner = place.copy()
            inside = list(ends)
            place.status = self.copied(inner, lambda: self.turned(command[2], inner, inside) and self.script(command[1], inner, inside, 0))
            place.folder = self.nearest(place.folder)
        else:
            inside = list(ends)
            if self.turned(command[-1], place, inside):
                getattr(self, "do_" + kind)(command, place, inside, loops)

    def pipe(self, commands, place, ends):
        reading = ends[0]
        for at, command in enumerate(commands):
            inner = place.copy()
            last = at == len(commands) - 1
            output = ends[1] if last else Buffer()
            status = self.copied(inner, lambda: self.command(command, inner, [reading, output, ends[2]], 0))
            place.folder = self.nearest(place.folder)
            if last:
                place.status = status
            else:
                reading = Reader(output.text)

    def do_group(self, command, place, ends, loops):
        self.script(command[1], place, ends, loops)

    def do_if(self, command, place, ends, loops):
        for test, script in command[1]:
            self.script(test, place, ends, loops)
            if place.status == 0:
                return self.script(script, place, ends, loops)
        self.script(command[2] or [], place, ends, loops)

    def do_case(self, command, place, ends, loops):
        text = self.joined(command[1], place, ends)
        for words, script in command[2]:
            for word in words:
                pattern = self.refusing(place, ends, lambda: joined_pattern(self.signs(word, place, ends)))
                if meets(pattern, text):
                    return self.script(script, place, ends, loops)
        place.status = 0

    def do_while(self, command, place, ends, loops, wanted=True):
        told = 0
        while True:
            self.step()
            try:
                self.script(command[1], place, ends, loops + 1)
            except Leaving as leaving:
                if self.ends_here(leaving, place):
                    return
                continue
            if (place.status == 0) != wanted:
                place.status = told
                return
            try:
                self.script(command[2], place, ends, loops + 1)
            except Leaving as leaving:
                if self.ends_here(leaving, place):
                    return
            told = place.status

    def do_until(self, command, place, ends, loops):
        self.do_while(command, place, ends, loops, False)

    def ends_here(self, leaving, place):
        """Tells whether a loop ends, and not just its round; goes on leaving if another one is meant."""
        if leaving.kind not in ("break", "continue"):
            raise leaving
        if leaving.number > 1:
            raise Leaving(leaving.kind, leaving.number - 1)
        place.status = 0
        return leaving.kind == "break"

    def do_each(self, command, place, ends, loops):
        fields = list(place.arguments) if command[2] is None else self.fields(command[2], place, ends)
        told = 0
        for field in fields:
            self.step()
            self.set(place, command[1], field)
            try:
                self.script(command[3], place, ends, loops + 1)
            except Leaving as leaving:
                if self.ends_here(leaving, place):
                    return
            told = place.status
        place.status = told

    def do(self, command, place, ends, loops):
        sets, words, turns = command[1:]
        self.run_status = 0
        statuses = []
        try:
            fields = self.words_of(words, place, ends, statuses)
            if fields:
                self.events.append(("do", fields))
            good = self.with_status(statuses, lambda: self.turned(turns, place, ends))
            ahead = {name: place.names.get(name) for name, _ in sets} if good and fields else {}
            try:
                if good:
                    for name, word in sets:
                        text = self.with_status(statuses, lambda: self.joined(word, place, ends))
                        self.set(place, name, text)
            except Leaving:
                self.back(place, ahead)
                raise
        except Leaving:
            self.step()
            raise
        self.step()
        if not good:
            return
        if fields == []:
            place.status = statuses[-1] if statuses else 0
            return
        try:
            self.act(fields, place, ends, loops)
        finally:
            self.back(place, ahead)

    def words_of(self, words, place, ends, statuses):
        found = []
        for word in words:
            found += self.with_status(statuses, lambda: self.fields([word], place, ends))
            if len(found) > 200:
                raise TooMuch
        return found

    def with_status(self, statuses, do):
        """Does something, and notes the status of the last "run" of it, if there was one."""
        self.run_status = None
        told = do()
        if self.run_status is not None:
            statuses.append(self.run_status)
        return told

    def back(self, place, ahead):
        for name, text in ahead.items():
            place.names.pop(name, None)
            if text is not None:
                place.names[name] = text

    def act(self, fields, place, ends, loops):
        if fields[0] in place.functions:
            arguments = place.arguments
            place.arguments = fields[1:]
            deep = self.deep
            self.deeper()
            try:
                self.command(place.functions[fields[0]], place, ends, 0)
            except Leaving as leaving:
                if leaving.kind != "return":
                    raise
            finally:
                self.deep = deep
                place.arguments = arguments
            return
        reading = ends[0] if isinstance(ends[0], Reader) else Reader("")
        answer = answer_of(fields, self.world(place), reading.text)
        if is_tool(fields[0]):
            world, out, err, status, rest = tool(fields, self.world(place), reading.text)
            reading.text = rest
            self.become(place, world[0])
            place.folder = world[1]
            self.write(place, ends[1], out)
            self.write(place, ends[2], err)
            place.status = status
        elif fields[0] in (": true false echo read set shift unset cd pwd test break continue return exit").split():
            self.deed(answer, reading, place, ends, loops)
        else:
            self.write(place, ends[2], fields[0] + ": unknown\n")
            place.status = 127

    def deed(self, answer, reading, place, ends, loops):
        reading.text = answer.rest
        for change in answer.changes:
            if change[0] == "set":
                self.set(place, change[1], change[2])
            elif change[0] == "gone":
                del place.names[change[1]]
                self.events.append(change)
            elif change[0] == "arguments":
                place.arguments = list(change[1])
            else:
                place.folder = change[1]
        self.write(place, ends[1], answer.out_text)
        self.write(place, ends[2], answer.err_text)
        place.status = answer.status
        if answer.leap is not None:
            kind, number = answer.leap
            if kind in ("exit", "return"):
                raise Leaving(kind, number)
            if loops > 0:
                raise Leaving(kind, min(number, loops))


def plain_run(script, world, text, limit):
    """Returns what `run` returns, `None` if it takes too many steps."""
    shell = PlainShell(world, text, limit)
    try:
        shell.whole(script)
    except TooMuch:
        return None
    return (shell.world(shell.top), shell.said[1], shell.said[2], shell.events)
