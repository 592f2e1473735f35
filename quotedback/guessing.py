"""Words expanded in many rooms, one for each way to choose what rooms may tell."""

from quotedback.errors import ShellError
from quotedback.expanding import Expansion, marked, value_mark
from quotedback.names import ALL_ARGUMENTS, is_name
from quotedback.splitting import cut_to_fields
from quotedback.sums import names_in, worked_out

# More fields than words of some pieces come to, if their greatest number has an end.
ENDLESS = 500
# Beyond these, arguments are looked at by `@`, `*` and their number alone.
PLACES = 3


class Choices:
    """What is chosen from: the texts of names that are not empty, what scripts write, how many arguments there are."""

    def __init__(self, sep, texts, outputs, counts, sum_text):
        self.sep = sep
        self.texts = texts
        self.outputs = outputs
        self.counts = counts
        self.sum_text = sum_text


class Guess(Expansion):
    """An expansion that chooses what it looks at when it looks at it; a plan tells the first choices."""

    def __init__(self, choices, plan):
        Expansion.__init__(self, ({}, [], "", 100, []), [])
        self.choices = choices
        self.first_choices = plan
        self.taken = []
        self.known = {}
        self.answers_told = []

    def choose(self, options):
        at = len(self.taken)
        index = self.first_choices[at] if at < len(self.first_choices) else 0
        self.taken.append((index, len(options)))
        return options[index]

    def told_arguments(self):
        if "@" not in self.known:
            count = self.choose(self.choices.counts)
            self.known["@"] = True
            told = [self.choose([""] + self.choices.texts) for _ in range(min(count, PLACES))]
            self.arguments = told + [self.choices.texts[0][0]] * (count - len(told))
        return self.arguments

    def separators(self):
        return self.choices.sep

    def value_of(self, name):
        if name == "#":
            return self.count_text(len(self.told_arguments()))
        if name == "?":
            return str(self.status)
        if not is_name(name) and name != "0":
            return self.argument(int(name))
        if name not in self.known:
            self.known[name] = self.choose(([""] if name == "0" else [None, ""]) + self.choices.texts)
        return self.known[name]

    def length(self, name):
        if name in ALL_ARGUMENTS:
            return self.count_text(len(self.told_arguments()))
        return self.count_text(len(self.value_of(name) or ""))

    def count_text(self, count):
        """Returns the text of a number that is as great as one likes if it is so great."""
        return "1" * ENDLESS if count >= ENDLESS else str(count)

    def number(self, tree):
        if names_in(tree) != []:
            return self.choices.sum_text
        return str(worked_out(tree, {}, []))

    def written(self, script):
        self.answers_told.append(self.choose(self.choices.outputs))
        return self.answers_told[-1]

    def cut_signs(self, name, mark, word, is_wide):
        # The word may refuse; otherwise any text may be left, whatever the value is.
        self.signs_of(word, False)
        if name not in ALL_ARGUMENTS:
            return marked(self.choose(self.choices.outputs), value_mark(is_wide))
        many = len(self.told_arguments())
        cut = [self.choose(self.choices.outputs) for _ in range(min(many, PLACES))]
        return self.texts_signs(name, cut + [self.choices.outputs[0][:1]] * (many - len(cut)), is_wide)


def guesses(word, choices):
    """Yields the tuples (guess, fields) of all ways to choose by which a word is not refused."""
    plan = []
    while plan is not None:
        guess = Guess(choices, plan)
        found = guessed_fields(guess, word)
        if found is not None:
            yield guess, found
        plan = plan_behind(guess.taken)


def guessed_fields(guess, word):
    """Returns the fields of a word, `None` if it is refused or gives an error."""
    try:
        return cut_to_fields(guess.signs_of(word, False), guess.separators())
    except ShellError:
        return None


def plan_behind(taken):
    """Returns the plan of the choices behind those that were taken, `None` if they were the last ones."""
    plan = [index for index, _ in taken]
    while plan != []:
        last = plan.pop()
        if last + 1 < taken[len(plan)][1]:
            return plan + [last + 1]
    return None
