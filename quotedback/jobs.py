"""The jobs of a thing with words: words expanded, turns done, names set, one behind the other."""

from quotedback.errors import DividedByZero, NoInteger, Refused, ShellError, TooGreat, TooLong, Wanted
from quotedback.expanding import Expansion, joined_pattern, joined_text
from quotedback.grounds import MOST_SIGNS
from quotedback.machines import Machine
from quotedback.paths import can_put, path_said
from quotedback.splitting import can_give_way, cut_to_fields, with_paths
from quotedback.worlds import files_with, room_paths

MOST_FIELDS = 200


class RunExpansion(Expansion):
    """An expansion in a run, which remembers the names that it sets."""

    def __init__(self, runner, work):
        room = (work.names, runner.arguments, runner.title, runner.status, [])
        Expansion.__init__(self, room, work.answers)
        self.names_set = []

    def set_name(self, name, text):
        if len(text) > MOST_SIGNS:
            raise TooLong(0)
        self.names[name] = text
        self.names_set.append(("set", name, text))


def jobs_of(thing):
    match thing[0]:
        case "do":
            ahead = field_jobs(thing[2]) + [("told",)] + turn_jobs(thing[3]) + [("hold",)]
            return ahead + [("set", name, word) for name, word in thing[1]]
        case "turns":
            return turn_jobs(thing[1])
        case "each":
            return [("arguments",)] if thing[2] is None else field_jobs(thing[2])
    return [("subject", thing[1])] + [("arm", word, place) for words, place in thing[2] for word in words]


def field_jobs(words):
    return [("field", word) for word in words]


def turn_jobs(turns):
    return [("turn", turn) for turn in turns]


def outcome(runner, work):
    """Does what is left of the jobs of a work, and returns how it went.

    That is a tuple: ("done",), ("turned down",) where a turn can't be done, ("wanted", script) where a script has to
    be done first, ("refused", line).
    """
    try:
        while work.at < len(work.jobs):
            if not job_goes_well(runner, work, work.jobs[work.at]):
                return ("turned down",)
            work.at += 1
    except Wanted as wanted:
        return ("wanted", wanted.value[0])
    except Refused as refusal:
        return ("refused", refusal.value[0] + ": " + refusal.value[1])
    except (NoInteger, DividedByZero, TooGreat):
        return ("refused", "bad sum")
    return ("done",)


def job_goes_well(runner, work, job):
    """Does a job, and tells whether the next one may follow."""
    match job:
        case ("field", word):
            add_fields(runner, work, word)
        case ("arguments",):
            work.fields = list(runner.arguments)
        case ("told",):
            if work.fields != []:
                runner.log.append(("do", list(work.fields)))
        case ("turn", turn):
            return can_turn(runner, work, turn)
        case ("hold",):
            hold_names(runner, work)
        case ("set", name, word):
            runner.set_name(name, joined_text(word_signs(runner, work, word)[0]))
        case ("subject", word):
            work.subject = joined_text(word_signs(runner, work, word)[0])
        case ("arm", word, place):
            pattern = joined_pattern(word_signs(runner, work, word)[0])
            if Machine([pattern]).lets_by(work.subject):
                work.place = place
                work.at = len(work.jobs)
    return True


def word_signs(runner, work, word):
    """Returns the signs of a word, and the signs at which loose texts are cut behind it."""
    if work.names is None:
        work.names = runner.names
    expansion = RunExpansion(runner, work)
    try:
        found = expansion.signs_of(word, False)
    except ShellError:
        tell_names(runner, work, expansion)
        raise
    tell_names(runner, work, expansion)
    work.names = None
    work.answers = []
    work.told_sets = 0
    return found, expansion.separators()


def tell_names(runner, work, expansion):
    """Tells the names that were set, but those that were told ahead of a script within the word."""
    runner.log.extend(expansion.names_set[work.told_sets:])
    work.told_sets = len(expansion.names_set)
    runner.names = expansion.names


def add_fields(runner, work, word):
    found, separators = word_signs(runner, work, word)
    fields = cut_to_fields(found, separators)
    paths = []
    if any([can_give_way(field) for field in fields]):
        paths = room_paths(runner.ground.files, runner.folder)
    work.fields = work.fields + with_paths(fields, paths)
    if len(work.fields) > MOST_FIELDS or any([len(field) > MOST_SIGNS for field in work.fields]):
        raise TooLong(0)


def hold_names(runner, work):
    """Remembers what the names of the sets are ahead of them, if they hold for a command alone."""
    if work.fields != []:
        work.names_ahead = {name: runner.names.get(name) for name, _ in work.thing[1]}


def can_turn(runner, work, turn):
    """Does a turn, or says that it can't be done."""
    number, mark, word = turn
    if mark == ">&":
        same = word[0][1]
        turn_descriptor(runner, number, ("shut",) if same == "-" else runner.descriptors[int(same)])
        return True
    text = joined_text(word_signs(runner, work, word)[0])
    target = turn_target(runner, mark, text)
    if target is None:
        runner.write(2, text + ": no\n")
        return False
    turn_descriptor(runner, number, target)
    return True


def turn_descriptor(runner, number, target):
    descriptors = list(runner.descriptors)
    descriptors[number] = target
    runner.descriptors = tuple(descriptors)


def turn_target(runner, mark, text):
    """Returns the descriptor to which a turn with a mark and a text leads, `None` if there is none."""
    if mark == "<<":
        return ("reads", runner.ground.new_stream(text, False))
    files = runner.ground.files
    path = path_said(runner.folder, text)
    if mark == "<":
        if path not in files or files[path] is None:
            return None
        return ("reads", runner.ground.new_stream(files[path], False))
    if not can_put(files, path, ""):
        return None
    if mark == ">" or path not in files:
        runner.change_files(files_with(files, path, ""))
    return ("file", path)
