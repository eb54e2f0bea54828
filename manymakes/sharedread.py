"""The shared reader: rows with wishes, read into a shared tree for all settings of a mask at once."""

from manymakes.cutting import kept_tree
from manymakes.errors import NoForm
from manymakes.masks import add_to, with_masks
from manymakes.phrases import read_row
from manymakes.plainread import place_fault
from manymakes.texts import variants

TOP = 0


class Spot:
    """A list of the shared tree that takes statements: that of the top, or one of a block."""

    def __init__(self, number, within, outer, other):
        self.number = number
        # The words of the blocks around it, the innermost last; else in the place of an if that is parted.
        self.within = within
        # The spot behind the block's end.
        self.outer = outer
        # The spot behind an else.
        self.other = other
        self.body = []


class Reading:
    """What is read so far, and where each setting stands that has no fault."""

    def __init__(self, mask):
        self.spots = []
        self.new_spot((), None, None)
        # By the numbers of spots: settings come apart by their rows, and together again behind the blocks' ends.
        self.standing = {TOP: mask}
        self.faults = {}

    def new_spot(self, within, outer, other):
        """One more spot."""
        spot = Spot(len(self.spots), within, outer, other)
        self.spots.append(spot)
        return spot

    def go_on(self, at, cuts):
        """Takes all settings that stand somewhere over row number at, of which these are the variants."""
        before = list(self.standing.items())
        self.standing = {}
        for mask, words in cuts:
            said = read_cut(words, at)
            for number, there in before:
                if mask & there != 0:
                    self.step(mask & there, at, said, self.spots[number])

    def step(self, mask, at, said, spot):
        """Takes settings that stand at one spot over a row that says the same in all of them."""
        word = said[0]
        what = "form" if word == "form" else place_fault(word, spot.within)
        if what is None:
            add_to(self.standing, self.led(mask, said, spot).number, mask)
        else:
            add_to(self.faults, (at, what), mask)

    def led(self, mask, said, spot):
        """The spot to which a row leads; what it begins is put in at the spot where it stands."""
        word = said[0]
        if word == "":
            return spot
        if word == "end":
            return spot.outer
        if word == "else":
            return spot.other
        if word == "if":
            other = self.new_spot(spot.within + ("else",), spot, None)
            then = self.new_spot(spot.within + (word,), spot, other)
            spot.body.append((mask, said + (then.body, other.body)))
            return then
        if word in ("def", "while"):
            inner = self.new_spot(spot.within + (word,), spot, None)
            spot.body.append((mask, said + (inner.body,)))
            return inner
        spot.body.append((mask, said))
        return spot

    def end_at(self, at):
        """Ends the reading behind the last row; at is how many rows there are."""
        for number, mask in self.standing.items():
            if number != TOP:
                add_to(self.faults, (at, "open"), mask)


def read_cut(words, at):
    """What the words of row number at say, a tuple with its word ahead: that of no words is "", of no form "form"."""
    try:
        head = read_row(words, at)
    except NoForm:
        return ("form",)
    return ("",) if head is None else head


def read_shared(rows, mask):
    """The shared tree of rows with wishes, and the faults (mask, at, what); TooMany ahead of all reading."""
    cuts = [variants(row, mask, at) for at, row in enumerate(rows)]
    reading = Reading(mask)
    for at, found in enumerate(cuts):
        reading.go_on(at, found)
    reading.end_at(len(rows))
    # Settings that have a fault stand in what was read ahead of it.
    tree = kept_tree(reading.spots[TOP].body, reading.standing.get(TOP, 0))
    return (tree, with_masks(reading.faults))
