"""Machines that read texts sign by sign, and know of several patterns at once which ones let the text by.

How a machine stands is a number with a row of bits for each pattern: a bit for each tuple, set where that tuple
may be the next one, and one behind them, set where the pattern lets by what has been read.
"""

from quotedback.signsets import ALL_SIGNS, SIGNS, least_sign, set_of


class Machine:
    """A machine for a list of patterns; `start` is how it stands ahead of a text."""

    def __init__(self, patterns):
        self.sets = []
        self.lots = 0
        self.ends = []
        self.below = []
        self.start = 0
        for pattern in patterns:
            self.add_row(rows_told(pattern))
        self.start = self.closed(self.start)
        self.masks = {}

    def add_row(self, pattern):
        first = len(self.sets)
        self.start |= 1 << first
        for piece in pattern:
            bit = 1 << len(self.sets)
            if piece == ("lot",):
                self.lots |= bit
                # Whatever is let by from ahead of a lot, is so from the lot, too.
                self.below.append((bit, bit - (1 << first)))
            self.sets.append(0 if piece == ("lot",) else set_of(piece))
        self.ends.append(1 << len(self.sets))
        self.sets.append(0)

    def closed(self, standing):
        """Returns how the machine stands when lots are left out, too, without what lots make needless."""
        found = standing | ((standing & self.lots) << 1)
        for bit, needless in self.below:
            if found & bit:
                found &= ~needless
        return found

    def stepped(self, standing, mask):
        """Returns how the machine stands behind one more sign, told by the mask of the tuples that let it by."""
        return self.closed(((standing & mask) << 1) | (standing & self.lots))

    def mask_of(self, sign):
        """Returns the mask of the tuples, but lots, that let a sign by."""
        if sign not in self.masks:
            bit = 1 << SIGNS.index(sign)
            self.masks[sign] = sum([1 << at for at, signs in enumerate(self.sets) if signs & bit])
        return self.masks[sign]

    def lets(self, standing, index):
        return standing & self.ends[index] != 0

    def lets_by(self, text):
        """Tells whether the first pattern lets a text by."""
        standing = self.start
        for sign in text:
            standing = self.stepped(standing, self.mask_of(sign))
        return self.lets(standing, 0)

    def classes(self, signs_let):
        """Returns the list of the first signs, ascending, of the classes of some signs that no tuple tells apart."""
        found = [signs_let]
        for signs in sorted(set(self.sets)):
            found = [part for one in found for part in (one & signs, one & ~signs) if part != 0]
        return sorted([least_sign(one) for one in found])

    def standings(self, signs_let=ALL_SIGNS):
        """Yields the tuples (standing, text) of each way to stand, with the first text that leads to it.

        They come in the order of their texts, by length and then as texts. The texts have some signs alone.
        """
        steps = [(sign, self.mask_of(sign)) for sign in self.classes(signs_let)]
        seen = {self.start: True}
        waiting = [(self.start, "")]
        while waiting:
            longer = []
            for standing, text in waiting:
                yield standing, text
                for sign, mask in steps:
                    behind = self.stepped(standing, mask)
                    if behind not in seen:
                        seen[behind] = True
                        longer.append((behind, text + sign))
            waiting = longer


def rows_told(pieces):
    """Returns the tuples of a pattern with each row of lots and "any" told as all "any" and then one lot."""
    told = []
    has_lot = False
    for piece in pieces:
        if piece == ("lot",):
            has_lot = True
        elif piece == ("any",):
            told.append(piece)
        else:
            if has_lot:
                told.append(("lot",))
            has_lot = False
            told.append(piece)
    if has_lot:
        told.append(("lot",))
    return told
