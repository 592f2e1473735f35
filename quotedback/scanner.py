"""A text that is read from its first sign on."""

from quotedback.errors import Unreadable


class Scanner:
    """A text, how far it has been read, and the whole text of which it is a part."""

    def __init__(self, text, whole):
        self.text = text
        self.whole = whole
        self.at = 0
        # Behind the last sign of a word or key word: no comment begins there.
        self.word_end = -1

    def sign(self):
        """Returns the next sign, the empty text at the end."""
        return self.text[self.at:self.at + 1]

    def is_at_end(self):
        return self.at == len(self.text)

    def sees(self, mark):
        return self.text.startswith(mark, self.at)

    def sees_one_of(self, some):
        return self.at < len(self.text) and self.text[self.at] in some

    def takes(self, mark):
        """Goes on behind a mark, if it stands here, and tells whether it does."""
        found = self.sees(mark)
        if found:
            self.at += len(mark)
        return found

    def need(self, mark):
        if not self.takes(mark):
            self.fail()

    def row_of(self, some):
        """Goes on behind the row, which may be empty, of some signs, and returns it."""
        start = self.at
        while self.sees_one_of(some):
            self.at += 1
        return self.text[start:self.at]

    def up_to(self, mark):
        """Goes on behind the next such mark, and returns what stands ahead of it."""
        stop = self.text.find(mark, self.at)
        if stop < 0:
            self.fail()
        ahead = self.text[self.at:stop]
        self.at = stop + len(mark)
        return ahead

    def fail(self):
        raise Unreadable(self.whole)
