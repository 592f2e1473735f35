"""The lines of the text of a script.

A line is a list of tuples: ("text", text), ("word", word), and ("here", word) where the end word of a `<<`
stands; the texts of these stand behind the line, in their order. Words may have newlines of their own.
"""

OUTPUT_MARKS = (">", ">>", ">&")


def script_lines(script):
    lines = []
    for command in script:
        lines.extend(command_lines(command))
    return lines


def command_lines(command):
    match command:
        case ("do", sets, words, turns):
            return [do_line(sets, words, turns)]
        case ("make", name, body):
            return [mark_line(name + "()")] + command_lines(body)
        case ("pipe", commands):
            lines = command_lines(commands[0])
            for command_behind in commands[1:]:
                lines = glued(lines, " | ", command_lines(command_behind))
            return lines
        case ("not", part):
            return glued([[]], "! ", command_lines(part))
        case ("and", one, other):
            return glued(command_lines(one), " && ", command_lines(other))
        case ("or", one, other):
            return glued(command_lines(one), " || ", command_lines(other))
    return block_lines(command)


def block_lines(command):
    """Returns the lines of a command with scripts, whose turns stand behind its last mark."""
    lines = open_lines(command)
    for turn in command[-1]:
        lines[-1] = lines[-1] + [("text", " ")] + turn_parts(turn)
    return lines


def open_lines(command):
    match command:
        case ("group", script, _):
            return marked([("{", script)], "}")
        case ("apart", script, _):
            return marked([("(", script)], ")")
        case ("if", arms, other, _):
            return marked(if_sections(arms, other), "fi")
        case ("while" | "until", test, script, _):
            return marked([(command[0], test), ("do", script)], "done")
        case ("each", name, words, script, _):
            return [each_line(name, words)] + marked([("do", script)], "done")
        case ("case", word, arms, _):
            return case_lines(word, arms)


def mark_line(text):
    return [("text", text)]


def glued(lines, text, behind):
    """Returns the lines in which a text and other lines go on on the last one."""
    return lines[:-1] + [lines[-1] + [("text", text)] + behind[0]] + behind[1:]


def marked(sections, end):
    """Returns the lines of tuples (mark, script), with a last mark behind them."""
    lines = []
    for mark, script in sections:
        lines.append(mark_line(mark))
        lines.extend(script_lines(script))
    lines.append(mark_line(end))
    return lines


def if_sections(arms, other):
    sections = []
    for test, script in arms:
        sections.append(("if" if sections == [] else "elif", test))
        sections.append(("then", script))
    if other is not None:
        sections.append(("else", other))
    return sections


def each_line(name, words):
    if words is None:
        return mark_line("for " + name)
    return parted([mark_line("for " + name + " in")] + [[("word", word)] for word in words], " ")


def case_lines(word, arms):
    lines = [[("text", "case "), ("word", word), ("text", " in")]]
    for words, script in arms:
        head = parted([[("word", one)] for one in words], " | ")
        lines.append([("text", "(")] + head + [("text", ")")])
        lines.extend(script_lines(script))
        lines.append(mark_line(";;"))
    lines.append(mark_line("esac"))
    return lines


def do_line(sets, words, turns):
    set_parts = [[("text", name + "="), ("word", word)] for name, word in sets]
    word_parts = [[("word", word)] for word in words]
    return parted(set_parts + word_parts + [turn_parts(turn) for turn in turns], " ")


def turn_parts(turn):
    number, mark, word = turn
    usual = 1 if mark in OUTPUT_MARKS else 0
    head = mark if number == usual else str(number) + mark
    return [("text", head), ("here" if mark == "<<" else "word", word)]


def parted(rows, text):
    """Returns the parts of some rows, one behind the other, with a text between the rows."""
    parts = []
    for row in rows:
        if parts != []:
            parts.append(("text", text))
        parts.extend(row)
    return parts
