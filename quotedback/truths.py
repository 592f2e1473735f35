"""What lists of pipes come to, whatever their pipes answer."""

ENDS = (False, True)


def told_steps(command):
    """Returns the first step of a command, and the list of its steps.

    A step is the index of a pipe in the list, or the truth to which the command comes; the list has for each pipe
    the tuple (pipe, step, other): the step behind False, and that behind True.
    """
    steps = []
    first = add_steps(command, False, True, steps)
    return first, steps


def add_steps(command, no, yes, steps):
    """Adds the steps of a command behind which, as it comes to False or True, a step follows; returns its first one."""
    match command:
        case ("not", part):
            return add_steps(part, yes, no, steps)
        case ("and", one, other):
            return add_steps(one, no, add_steps(other, no, yes, steps), steps)
        case ("or", one, other):
            return add_steps(one, add_steps(other, no, yes, steps), yes, steps)
    steps.append((command, no, yes))
    # Numbers beyond those of truths, since False is 0, and True 1.
    return len(steps) + 1


def first_parting(one, other):
    """Returns the first list of answers behind which two commands part, `None` if there is none."""
    start, steps = told_steps(one)
    other_start, other_steps = told_steps(other)
    seen = {(start, other_start): True}
    waiting = [([], start, other_start)]
    while waiting:
        longer = []
        for answers, here, there in waiting:
            if told_at(here, steps) != told_at(there, other_steps):
                return answers
            if here > 1:
                for answer in (0, 1):
                    pair = (steps[here - 2][1 + answer], other_steps[there - 2][1 + answer])
                    if pair not in seen:
                        seen[pair] = True
                        longer.append((answers + [answer == 1], pair[0], pair[1]))
        waiting = longer
    return None


def told_at(step, steps):
    """Returns what a command does at a step: its pipe, or the truth of its end."""
    return ("end", step == 1) if step <= 1 else steps[step - 2][0]


def truths_of(command):
    """Returns the ascending list of what a command can come to, if equal pipes always answer the same."""
    first, steps = told_steps(command)
    found = {}
    waiting = [(first, [])]
    while waiting:
        step, told = waiting.pop()
        if step <= 1:
            found[step == 1] = True
        else:
            pipe, no, yes = steps[step - 2]
            known = [answer for asked, answer in told if asked == pipe]
            waiting.extend([(yes if answer else no, told + [(pipe, answer)]) for answer in known or ENDS])
    return sorted(found)
