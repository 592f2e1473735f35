"""Which names a script may look at as they were ahead of it, and which ones it may set."""

from quotedback.names import is_name
from quotedback.parts import parts_of
from quotedback.sums import names_in
from quotedback.surewords import sure_text
from quotedback.trees import all_commands

ENDING_MARKS = ("<", ">", ">>")


class Looks:
    """The names that are looked at; `known` is everywhere a dict of the names that are surely set by then."""

    def __init__(self):
        self.found = {}

    def at_name(self, name, known):
        if is_name(name) and name not in known:
            self.found[name] = True

    def at_word(self, pieces, known):
        for piece in pieces:
            match piece:
                case ("wide", inner):
                    self.at_word(inner, known)
                case ("name", name, deed):
                    self.at_name(name, known)
                    if len(deed) == 3:
                        self.at_word(deed[2], known)
                case ("sum", tree):
                    for told in names_in(tree):
                        self.at_name(told, known)
                case ("run", script):
                    self.at_script(script, known)

    def at_words(self, words, known):
        for word in words:
            self.at_word(word, known)

    def at_script(self, script, known):
        """Looks at commands one behind the other, and returns the names that are known behind them."""
        for command in script:
            known = self.at_command(command, known)
        return known

    def at_command(self, command, known):
        match command:
            case ("do", sets, words, turns):
                return self.at_do(sets, words, turns, known)
            case ("make", _, body):
                self.at_command(body, known)
                return known
            case ("pipe", commands):
                for side in commands:
                    self.at_command(side, known)
                return known
            case ("not", part):
                return self.at_command(part, known)
            case ("and" | "or", one, other):
                behind = self.at_command(one, known)
                self.at_command(other, behind)
                return behind
        self.at_words([word for _, _, word in command[-1]], known)
        behind = self.at_block(command, known)
        return known if may_end(command[-1]) else behind

    def at_do(self, sets, words, turns, known):
        self.at_words(words, known)
        self.at_words([word for _, _, word in turns], known)
        behind = known
        for name, word in sets:
            self.at_word(word, behind)
            behind = with_names(behind, [name])
        if may_end(turns):
            return known
        if words == []:
            return behind
        own = [name for name, _ in sets]
        return with_names(known, [name for name in names_done(words) if name not in own])

    def at_block(self, command, known):
        """Looks at what stands in a command with scripts, behind its turns."""
        match command:
            case ("group", script, _):
                return self.at_script(script, known)
            case ("apart", script, _):
                self.at_script(script, known)
            case ("if", arms, other, _):
                return self.at_if(arms, other, known)
            case ("while" | "until", test, script, _):
                self.at_script(script, self.at_script(test, known))
            case ("each", name, words, script, _):
                self.at_words(words or [], known)
                self.at_script(script, with_names(known, [name]))
            case ("case", word, arms, _):
                self.at_word(word, known)
                for words_of_arm, script_of_arm in arms:
                    self.at_words(words_of_arm, known)
                    self.at_script(script_of_arm, known)
        return known

    def at_if(self, arms, other, known):
        ends = []
        for test, script in arms:
            known = self.at_script(test, known)
            ends.append(self.at_script(script, known))
        ends.append(self.at_script(other or [], known))
        return {name: True for name in ends[0] if all([name in end for end in ends])}


def may_end(turns):
    """Tells whether one of some turns may end its command."""
    return any([mark in ENDING_MARKS for _, mark, _ in turns])


def with_names(known, names):
    behind = dict(known)
    for name in names:
        behind[name] = True
    return behind


def names_done(words):
    """Returns the names that a "do" of `read` or `unset` surely sets or takes away."""
    texts = [sure_text(word) for word in words]
    if None in texts or len(texts) == 1 or not all([is_name(text) for text in texts[1:]]):
        return []
    if texts[0] == "unset" or (texts[0] == "read" and len(texts) == 2):
        return texts[1:]
    return []


def names_looked_at(script):
    looks = Looks()
    looks.at_script(script, {})
    return sorted(looks.found)


def names_maybe_set(script):
    found = []
    for command in all_commands(script):
        found.extend(names_set_by(command))
        for _, kind, part in parts_of(command):
            if kind == "word":
                found.extend(names_set_in(part))
    return sorted(set(found))


def names_set_by(command):
    """Returns the names that a command sets by itself."""
    match command:
        case ("each", name, _, _, _):
            return [name]
        case ("do", sets, words, _):
            return [told for told, _ in sets] + names_read(words)
    return []


def names_read(words):
    if words == [] or sure_text(words[0]) != "read":
        return []
    texts = [sure_text(word) for word in words[1:]]
    return [text for text in texts if text is not None and is_name(text)]


def names_set_in(pieces):
    """Returns the names that pieces set, without those in the scripts within."""
    found = []
    for piece in pieces:
        match piece:
            case ("wide", inner):
                found.extend(names_set_in(inner))
            case ("name", name, (kind, _, word)):
                if kind == "set" and is_name(name):
                    found.append(name)
                found.extend(names_set_in(word))
    return found
