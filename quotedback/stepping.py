"""Runs done thing by thing, and step by step."""

from quotedback.compiling import things_of_command, things_of_script
from quotedback.deedwork import answer_of, lines_read_by_deed
from quotedback.deeds import is_deed
from quotedback.errors import ShellError, TooLong
from quotedback.frames import Call, Loop, Turned, Work
from quotedback.jobs import jobs_of, outcome
from quotedback.names import TOOLS
from quotedback.toolwork import job_done, lines_read_by_tool

UNKNOWN = 127


def advance(runner):
    """Does the next thing, or goes on with one whose words are being expanded."""
    work = work_on_top(runner)
    if work is not None:
        go_on(runner, work)
    elif runner.at == len(runner.code):
        runner.end_code()
    else:
        thing = runner.code[runner.at]
        runner.at += 1
        do_thing(runner, thing)


def work_on_top(runner):
    if runner.frames != [] and isinstance(runner.frames[-1], Work):
        return runner.frames[-1]
    return None


def do_thing(runner, thing):
    match thing[0]:
        case "do" | "turns" | "each" | "case":
            runner.frames.append(Work(thing, jobs_of(thing), runner.descriptors))
        case "make":
            runner.functions = {**runner.functions, thing[1]: thing[2]}
            runner.status = 0
        case "status 0":
            runner.status = 0
        case "turn about":
            runner.status = 1 if runner.status == 0 else 0
        case "turn back":
            runner.frames.pop().put_back(runner)
        case "apart":
            runner.begin_copy("apart", thing[1])
        case "side":
            begin_side(runner, thing)
        case "leave":
            runner.end_copy()
        case "loop":
            runner.frames.append(Loop(thing[1], thing[2], []))
        case "round":
            runner.count_step()
            runner.frames[-1].enter_script(False)
        case "next":
            begin_round(runner, thing)
        case "keep status":
            runner.frames[-1].keep_status(runner.status)
        case "end loop":
            runner.status = runner.frames.pop().status
        case _:
            go_if(runner, thing)


def go_if(runner, thing):
    """Goes to a place, if the status says so."""
    match thing[0]:
        case "go":
            goes = True
        case "if 0":
            goes = runner.status == 0
        case "if not 0":
            goes = runner.status != 0
        case _:
            goes = (runner.status == 0) != (thing[0] == "while")
            runner.frames[-1].enter_script(not goes)
    if goes:
        runner.at = thing[1]


def begin_side(runner, thing):
    is_first, is_last, behind = thing[1:]
    carried = runner.carried
    runner.begin_copy("last side" if is_last else "side", behind)
    if not is_first:
        runner.descriptors = (("reads", carried), runner.descriptors[1], runner.descriptors[2])
    if not is_last:
        runner.catch_output()


def begin_round(runner, thing):
    loop = runner.frames[-1]
    if loop.fields == []:
        runner.at = thing[2]
        return
    runner.count_step()
    runner.set_name(thing[1], loop.next_field())


def begin_run(runner, script):
    """Begins the script of a "run", for which the work on top waits."""
    runner.begin_copy("run", runner.at)
    runner.catch_output()
    runner.code = things_of_script(script)
    runner.at = 0


def go_on(runner, work):
    """Goes on with a work, up to a script that it wants, or to its end."""
    told = outcome(runner, work)
    if told[0] == "wanted":
        begin_run(runner, told[1])
        return
    if work.thing[0] == "do":
        runner.count_step()
    match told:
        case ("refused", line):
            runner.write(2, line + "\n")
            runner.status = 1
            runner.leave(False)
        case ("turned down",):
            runner.frames.pop().put_back(runner)
            runner.status = 1
            if work.thing[0] != "do":
                runner.at = work.thing[-1]
        case _:
            end_work(runner, work)


def end_work(runner, work):
    match work.thing[0]:
        case "do":
            act(runner, work)
        case "turns":
            runner.frames.pop()
            runner.frames.append(Turned(work.descriptors))
        case "each":
            runner.frames.pop()
            runner.frames.append(Loop(work.thing[3], work.thing[4], work.fields))
            runner.at = work.thing[3]
        case "case":
            runner.frames.pop()
            if work.place is None:
                runner.status = 0
            runner.at = work.thing[3] if work.place is None else work.place


def act(runner, work):
    """Does what the fields of a "do" say."""
    fields = work.fields
    if fields == []:
        runner.frames.pop().put_back(runner)
        runner.status = work.run_status
    elif fields[0] in runner.functions:
        call(runner, work)
    elif is_deed(fields[0]):
        do_deed(runner, fields)
    elif fields[0] in TOOLS:
        do_tool(runner, fields)
        runner.frames.pop().put_back(runner)
    else:
        runner.write(2, fields[0] + ": unknown\n")
        runner.frames.pop().put_back(runner)
        runner.status = UNKNOWN


def call(runner, work):
    runner.frames.pop()
    runner.frames.append(Call(runner, work))
    runner.go_deeper()
    runner.arguments = work.fields[1:]
    runner.code = things_of_command(runner.functions[work.fields[0]])
    runner.at = 0


def do_tool(runner, fields):
    text = runner.text_at_hand(lines_read_by_tool(fields))
    job = job_done(fields, runner.ground.files, runner.folder, text)
    runner.leave_text(job.rest)
    runner.change_files(job.files)
    runner.folder = job.folder
    runner.write(1, job.out_text)
    runner.write(2, job.err_text)
    runner.status = job.status


def do_deed(runner, fields):
    answer = answer_of(fields, runner.as_world(), runner.text_at_hand(lines_read_by_deed(fields)))
    runner.leave_text(answer.rest)
    for change in answer.changes:
        change_by_deed(runner, change)
    runner.write(1, answer.out_text)
    runner.write(2, answer.err_text)
    runner.frames.pop().put_back(runner)
    runner.status = answer.status
    match answer.leap:
        case ("break" | "continue", count):
            runner.leave_loops(answer.leap[0], count)
        case ("return" | "exit", _):
            runner.leave(answer.leap[0] == "return")


def change_by_deed(runner, change):
    match change:
        case ("set", name, text):
            runner.set_name(name, text)
        case ("gone", name):
            runner.take_name(name)
        case ("arguments", texts):
            runner.arguments = texts
        case ("folder", path):
            runner.folder = path


def settle(runner):
    """Goes on to where a step is the next thing, or to the end."""
    while not runner.is_ended and not is_at_round(runner):
        work = work_on_top(runner)
        if work is None or work.thing[0] != "do":
            advance(runner)
        elif not goes_on_to_run(runner):
            return


def is_at_round(runner):
    if work_on_top(runner) is not None or runner.at == len(runner.code):
        return False
    kind = runner.code[runner.at][0]
    return kind == "round" or (kind == "next" and runner.frames[-1].fields != [])


def goes_on_to_run(runner):
    """Goes on with a "do" to the next script that it wants, if there is one, and tells whether; else does nothing."""
    trial = runner.copied()
    try:
        told = outcome(trial, trial.frames[-1])
    except TooLong:
        # The step of the "do" itself is too great, not one ahead of it.
        return False
    if told[0] != "wanted":
        return False
    begin_run(trial, told[1])
    runner.adopt(trial)
    return True


def take_step(runner):
    """Does the step ahead of which a run stands, and goes on to the next one, or to the end."""
    settle(runner)
    advance(runner)
    settle(runner)


def next_fields_of(runner):
    """Returns the fields of the "do" that the next step does, `None` if there are none, or if it can't be done."""
    trial = runner.copied()
    work = work_on_top(trial)
    if work is None:
        return None
    try:
        told = outcome(trial, work)
        if told[0] == "done":
            act(trial, work)
    except ShellError:
        return None
    if told[0] == "refused" or work.fields == []:
        return None
    return list(work.fields)


def run_to_end(runner, limit):
    """Does a whole run, of at most so many steps."""
    runner.limit = limit
    try:
        while not runner.is_ended:
            advance(runner)
    except TooLong:
        # Whatever was too great is told by the limit.
        raise TooLong(limit) from None
