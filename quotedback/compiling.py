"""Scripts as code: lists of things that are done one behind the other, unless one tells a place to go to.

A thing is a tuple whose first text tells what it is; `PLACES` tells where places stand in it. A place may be the one
behind the last thing, where a list ends.
"""

PLACES = {
    "go": (1,), "if 0": (1,), "if not 0": (1,), "while": (1,), "until": (1,), "next": (2,), "turns": (2,),
    "apart": (1,), "side": (3,), "loop": (1, 2), "each": (3, 4), "case": (3,),
}


def things_of_script(script):
    """Returns the code of a script; what stands in it is not copied."""
    things = []
    add_script(things, script)
    return things


def things_of_command(command):
    things = []
    add_command(things, command)
    return things


def add_script(things, script):
    if script == []:
        things.append(("status 0",))
    for command in script:
        add_command(things, command)


def hole(things):
    """Leaves a place free that is filled when it is known where to go to, and returns it."""
    things.append(("go", 0))
    return len(things) - 1


def add_command(things, command):
    match command:
        case ("do", _, _, _):
            things.append(command)
        case ("make", _, _):
            things.append(command)
        case ("pipe", commands):
            for at in range(len(commands)):
                add_side(things, commands, at)
        case ("not", part):
            add_command(things, part)
            things.append(("turn about",))
        case ("and" | "or", one, other):
            add_command(things, one)
            skip = hole(things)
            add_command(things, other)
            things[skip] = ("if not 0" if command[0] == "and" else "if 0", len(things))
        case ("apart", script, turns):
            start = hole(things)
            add_turned(things, command, turns)
            things.append(("leave",))
            things[start] = ("apart", len(things))
        case _:
            add_turned(things, command, command[-1])


def add_side(things, commands, at):
    start = hole(things)
    add_command(things, commands[at])
    things.append(("leave",))
    things[start] = ("side", at == 0, at == len(commands) - 1, len(things))


def add_turned(things, command, turns):
    """Adds what is in a command with scripts, with its turns around it."""
    if turns == []:
        add_block(things, command)
        return
    start = hole(things)
    add_block(things, command)
    things.append(("turn back",))
    things[start] = ("turns", turns, len(things))


def add_block(things, command):
    match command:
        case ("group" | "apart", script, _):
            add_script(things, script)
        case ("if", arms, other, _):
            add_if(things, arms, other)
        case ("while" | "until", test, script, _):
            add_loop(things, command[0], test, script)
        case ("each", name, words, script, _):
            add_each(things, name, words, script)
        case ("case", word, arms, _):
            add_case(things, word, arms)


def add_if(things, arms, other):
    ends = []
    for test, script in arms:
        add_script(things, test)
        skip = hole(things)
        add_script(things, script)
        ends.append(hole(things))
        things[skip] = ("if not 0", len(things))
    add_script(things, other or [])
    for end in ends:
        things[end] = ("go", len(things))


def add_loop(things, kind, test, script):
    start = hole(things)
    things.append(("round",))
    add_script(things, test)
    check = hole(things)
    add_script(things, script)
    things.append(("keep status",))
    things.append(("go", start + 1))
    things[check] = (kind, len(things))
    things.append(("end loop",))
    things[start] = ("loop", start + 1, len(things))


def add_each(things, name, words, script):
    start = hole(things)
    check = hole(things)
    add_script(things, script)
    things.append(("keep status",))
    things.append(("go", check))
    things[check] = ("next", name, len(things))
    things.append(("end loop",))
    things[start] = ("each", name, words, check, len(things))


def add_case(things, word, arms):
    start = hole(things)
    told = []
    ends = []
    for words, script in arms:
        told.append((words, len(things)))
        add_script(things, script)
        ends.append(hole(things))
    for end in ends:
        things[end] = ("go", len(things))
    things[start] = ("case", word, told, len(things))
