"""What each deed of the shell does with its fields, told as an answer that whoever runs it acts on."""

from quotedback.deeds import WRONG, said, test_status
from quotedback.names import is_name
from quotedback.paths import TOP, is_folder, path_said
from quotedback.rooms import GREATEST_STATUS
from quotedback.sums import is_integer

# More loops than ever stand within one another; a greater number is not told apart.
MANY_LOOPS = 10 ** 9


class Answer:
    """What a deed writes, its status, and what is to be changed behind it.

    `rest` is the text that is left to be read. `changes` has tuples: ("set", name, text), ("gone", name),
    ("arguments", texts) and ("folder", path). `leap` is `None`, or a tuple: ("break", number), ("continue", number),
    ("return", status) or ("exit", status).
    """

    def __init__(self, status, rest):
        self.status = status
        self.rest = rest
        self.out_text = ""
        self.err_text = ""
        self.changes = []
        self.leap = None


def answer_of(fields, world, text):
    """Returns the answer of a deed, told by its fields with its name, that reads a text in a world."""
    answer = Answer(0, text)
    if not is_right(fields[0], fields[1:]):
        turn_down(answer, WRONG, fields[0] + ": wrong")
        return answer
    match fields[0]:
        case "false":
            answer.status = 1
        case "echo":
            answer.out_text = said(fields[1:])
        case "pwd":
            answer.out_text = world[1] + "\n"
        case "read":
            read_line(answer, fields[1])
        case "set":
            answer.changes.append(("arguments", fields[1:]))
        case "unset":
            answer.changes.extend([("gone", name) for at, name in enumerate(fields) if is_gone(fields, at, world[2])])
        case "shift":
            take_argument(answer, world[3])
        case "cd":
            go_to_folder(answer, fields[1] if len(fields) == 2 else TOP, world)
        case "test":
            test_fields(answer, fields[1:], world)
        case "break" | "continue":
            answer.leap = (fields[0], loops_told(fields[1:]))
        case "return" | "exit":
            answer.status = int(fields[1]) if len(fields) == 2 else world[5]
            answer.leap = (fields[0], answer.status)
    return answer


def is_right(name, fields):
    """Tells whether a deed takes so many fields, and of such a kind; `test` finds out by itself."""
    match name:
        case "read":
            return len(fields) == 1 and is_name(fields[0])
        case "unset":
            return fields != [] and all([is_name(field) for field in fields])
        case "shift" | "pwd":
            return fields == []
        case "cd":
            return len(fields) <= 1
        case "break" | "continue":
            return fields == [] or (len(fields) == 1 and is_count(fields[0]) and fields[0] != "0")
        case "return" | "exit":
            return fields == [] or (len(fields) == 1 and is_count(fields[0]) and is_small(fields[0]))
    return True


def lines_read_by_deed(fields):
    """Returns how many lines a deed reads."""
    return 1 if fields[0] == "read" and is_right("read", fields[1:]) else 0


def is_count(field):
    return is_integer(field) and field[0] != "-"


def is_small(field):
    return len(field) <= 3 and int(field) <= GREATEST_STATUS


def turn_down(answer, status, line):
    answer.status = status
    answer.err_text = line + "\n"


def read_line(answer, name):
    line, _, rest = answer.rest.partition("\n")
    if answer.rest == "":
        answer.status = 1
    answer.rest = rest
    answer.changes.append(("set", name, line))


def is_gone(fields, at, names):
    """Tells whether a field of `unset` takes a name away that is set, and that no field ahead takes away."""
    return at > 0 and fields[at] in names and fields[at] not in fields[1:at]


def take_argument(answer, arguments):
    if arguments == []:
        answer.status = 1
    else:
        answer.changes.append(("arguments", arguments[1:]))


def go_to_folder(answer, field, world):
    path = path_said(world[1], field)
    if is_folder(world[0], path):
        answer.changes.append(("folder", path))
    else:
        turn_down(answer, 1, field + ": no")


def test_fields(answer, fields, world):
    status = test_status(fields, world)
    if status == WRONG:
        turn_down(answer, WRONG, "test: wrong")
    answer.status = status


def loops_told(fields):
    if fields == []:
        return 1
    return int(fields[0]) if len(fields[0]) <= 9 else MANY_LOOPS
