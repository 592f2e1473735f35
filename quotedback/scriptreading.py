"""Scripts as a reader reads them."""

from quotedback.commands import is_turn
from quotedback.lines import OUTPUT_MARKS
from quotedback.names import BARE_SIGNS, KEY_WORDS, NAME_SIGNS, NAME_STARTS, may_be_made
from quotedback.scanner import Scanner
from quotedback.wordreading import PIECE_STARTS, here_pieces_at, pieces_at

# A key word ends ahead of one of these, or at the end of the text.
KEY_WORD_ENDS = " \n;&|()<>"
OPENING_WORDS = ("if", "while", "until", "for", "case", "{", "!")
# Longer ones first, since they begin with the others.
TURN_MARKS = (">>", ">&", ">", "<<", "<")


class Reader(Scanner):
    """A scanner that reads scripts, with the here-texts that are still to come behind a newline."""

    def __init__(self, text, whole):
        Scanner.__init__(self, text, whole)
        self.heres = []

    def blanks(self):
        """Goes on behind blanks, and to the end of the line if a comment begins there."""
        self.row_of(" ")
        if self.sees("#") and self.at != self.word_end:
            stop = self.text.find("\n", self.at)
            self.at = len(self.text) if stop < 0 else stop

    def newlines(self):
        """Goes on behind blanks and newlines, and behind the here-texts behind them."""
        self.blanks()
        while self.takes("\n"):
            self.read_heres()
            self.blanks()

    def read_heres(self):
        waiting = self.heres
        self.heres = []
        for word, end, is_held in waiting:
            word.append(here_piece(self, end, is_held))

    def script(self):
        """Reads commands to where none begins; their here-texts end there, too."""
        outer = self.heres
        self.heres = []
        commands, _ = commands_at(self)
        if self.heres != []:
            self.fail()
        self.heres = outer
        return commands


def here_piece(reader, end, is_held):
    text = ""
    line = reader.up_to("\n")
    while line != end:
        text += line + "\n"
        line = reader.up_to("\n")
    if is_held:
        return ("held", text)
    return ("wide", here_pieces_at(Reader(text, reader.whole)))


def commands_at(reader):
    """Reads commands to where none begins; tells, too, whether a newline or `;` stands behind them."""
    commands = []
    reader.newlines()
    while begins_command(reader):
        commands.append(list_at(reader))
        if not takes_end(reader):
            return commands, False
    return commands, True


def begins_command(reader):
    word = key_word_at(reader)
    if word != "":
        return word in OPENING_WORDS
    return reader.sees("(") or reader.sees_one_of(PIECE_STARTS) or begins_turn(reader)


def takes_end(reader):
    """Goes on behind a newline or `;`, and the newlines behind it, if one stands here, and tells whether."""
    reader.blanks()
    found = reader.sees("\n") or (reader.sees(";") and not reader.sees(";;"))
    if found:
        reader.takes(";")
        reader.newlines()
    return found


def key_word_at(reader):
    """Returns the key word that is the whole word that begins here, the empty text if there is none."""
    stop = reader.at
    if reader.sees_one_of("{}"):
        stop += 1
    else:
        while stop < len(reader.text) and reader.text[stop] in BARE_SIGNS:
            stop += 1
    word = reader.text[reader.at:stop]
    behind = reader.text[stop:stop + 1]
    if word not in KEY_WORDS or (behind != "" and behind in "'\"\\$" and word not in ("{", "}")):
        return ""
    if behind not in KEY_WORD_ENDS:
        reader.fail()
    return word


def take_key_word(reader, words):
    """Goes on behind one of some key words, and returns it."""
    word = key_word_at(reader)
    if word not in words:
        reader.fail()
    reader.need(word)
    reader.word_end = reader.at
    return word


def list_at(reader):
    tree = turned_at(reader)
    while True:
        reader.blanks()
        if reader.takes("&&"):
            kind = "and"
        elif reader.takes("||"):
            kind = "or"
        else:
            return tree
        reader.newlines()
        tree = (kind, tree, turned_at(reader))


def turned_at(reader):
    """Reads a pipe, or what may stand in one, maybe with a `!` ahead."""
    if key_word_at(reader) != "!":
        return pipe_at(reader)
    take_key_word(reader, ("!",))
    reader.blanks()
    return ("not", pipe_at(reader))


def pipe_at(reader):
    commands = [command_at(reader)]
    reader.blanks()
    while reader.sees("|") and not reader.sees("||"):
        reader.need("|")
        reader.newlines()
        commands.append(command_at(reader))
        reader.blanks()
    return commands[0] if len(commands) == 1 else ("pipe", commands)


def command_at(reader):
    if key_word_at(reader) != "" or reader.sees("("):
        return block_at(reader)
    stop = made_name_end(reader)
    if stop > 0:
        return make_at(reader, stop)
    return do_at(reader)


def name_end(reader):
    """Returns where the name ends that stands here, 0 if there is none."""
    if not reader.sees_one_of(NAME_STARTS):
        return 0
    start = reader.at
    reader.row_of(NAME_SIGNS)
    stop = reader.at
    reader.at = start
    return stop


def made_name_end(reader):
    """Returns where a name ends behind which, behind blanks, a `(` stands, 0 if there is none."""
    stop = name_end(reader)
    at = stop
    while reader.text[at:at + 1] == " ":
        at += 1
    return stop if stop > 0 and reader.text[at:at + 1] == "(" else 0


def make_at(reader, stop):
    name = reader.text[reader.at:stop]
    if not may_be_made(name):
        reader.fail()
    reader.need(name)
    reader.blanks()
    reader.need("(")
    reader.blanks()
    reader.need(")")
    reader.newlines()
    return ("make", name, block_at(reader))


def block_at(reader):
    """Reads a command with scripts, and its turns."""
    if reader.takes("("):
        script, _ = commands_at(reader)
        if script == []:
            reader.fail()
        reader.need(")")
        return ("apart", script, turns_at(reader))
    word = take_key_word(reader, ("{", "if", "while", "until", "for", "case"))
    if word == "{":
        script, _ = body_at(reader, ("}",))
        return ("group", script, turns_at(reader))
    if word == "if":
        return if_at(reader)
    if word == "for":
        return each_at(reader)
    if word == "case":
        return case_at(reader)
    test, _ = body_at(reader, ("do",))
    script, _ = body_at(reader, ("done",))
    return (word, test, script, turns_at(reader))


def body_at(reader, ends):
    """Reads a script that is not empty, and goes on behind the key word that ends it, which it returns, too."""
    script, is_ended = commands_at(reader)
    if script == [] or not is_ended:
        reader.fail()
    return script, take_key_word(reader, ends)


def if_at(reader):
    arms = []
    other = None
    end = "elif"
    while end == "elif":
        test, _ = body_at(reader, ("then",))
        script, end = body_at(reader, ("elif", "else", "fi"))
        arms.append((test, script))
    if end == "else":
        other, _ = body_at(reader, ("fi",))
    return ("if", arms, other, turns_at(reader))


def each_at(reader):
    reader.blanks()
    if not reader.sees_one_of(NAME_STARTS):
        reader.fail()
    name = reader.row_of(NAME_SIGNS)
    reader.word_end = reader.at
    reader.blanks()
    words = None
    if key_word_at(reader) == "in":
        take_key_word(reader, ("in",))
        words = words_at(reader)
    if not takes_end(reader):
        reader.fail()
    take_key_word(reader, ("do",))
    script, _ = body_at(reader, ("done",))
    return ("each", name, words, script, turns_at(reader))


def case_at(reader):
    reader.blanks()
    word = word_at(reader)
    reader.blanks()
    take_key_word(reader, ("in",))
    reader.newlines()
    arms = []
    while key_word_at(reader) != "esac":
        arms.append(arm_at(reader))
    take_key_word(reader, ("esac",))
    return ("case", word, arms, turns_at(reader))


def arm_at(reader):
    words = arm_words_at(reader)
    script, is_ended = commands_at(reader)
    if reader.takes(";;"):
        reader.newlines()
    elif key_word_at(reader) != "esac" or not is_ended:
        reader.fail()
    return (words, script)


def arm_words_at(reader):
    reader.takes("(")
    reader.blanks()
    words = [word_at(reader)]
    if words[0] == [("bare", "esac")]:
        reader.fail()
    reader.blanks()
    while reader.takes("|"):
        reader.blanks()
        words.append(word_at(reader))
        reader.blanks()
    reader.need(")")
    return words


def do_at(reader):
    sets = sets_at(reader)
    words = words_at(reader)
    turns = turns_at(reader)
    if sets == [] and words == [] and turns == []:
        reader.fail()
    return ("do", sets, words, turns)


def sets_at(reader):
    sets = []
    stop = name_end(reader)
    while stop > 0 and reader.text[stop:stop + 1] == "=":
        name = reader.row_of(NAME_SIGNS)
        reader.need("=")
        sets.append((name, pieces_at(reader)))
        reader.blanks()
        stop = name_end(reader)
    return sets


def words_at(reader):
    words = []
    reader.blanks()
    while reader.sees_one_of(PIECE_STARTS) and not begins_turn(reader):
        words.append(pieces_at(reader))
        reader.blanks()
    return words


def word_at(reader):
    if begins_turn(reader):
        reader.fail()
    word = pieces_at(reader)
    if word == []:
        reader.fail()
    return word


def begins_turn(reader):
    """Tells whether the mark of a turn stands here, or a digit that is its number."""
    at = reader.at + 1 if reader.sees_one_of("012") else reader.at
    return reader.text[at:at + 1] in ("<", ">")


def turns_at(reader):
    turns = []
    reader.blanks()
    while begins_turn(reader):
        turns.append(turn_at(reader))
        reader.blanks()
    return turns


def turn_at(reader):
    digit = reader.row_of("012")
    mark = [one for one in TURN_MARKS if reader.sees(one)][0]
    reader.need(mark)
    reader.blanks()
    usual = 1 if mark in OUTPUT_MARKS else 0
    number = usual if digit == "" else int(digit)
    word = here_word_at(reader) if mark == "<<" else word_at(reader)
    if mark == ">&" and not is_turn(number, mark, word):
        reader.fail()
    return (number, mark, word)


def here_word_at(reader):
    """Reads an end word; returns the word of its text, which is filled behind the next newline."""
    if begins_turn(reader):
        reader.fail()
    is_held = reader.takes("'")
    end = reader.row_of(BARE_SIGNS)
    if end == "":
        reader.fail()
    if is_held:
        reader.need("'")
    reader.word_end = reader.at
    word = []
    reader.heres.append((word, end, is_held))
    return word
