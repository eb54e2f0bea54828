"""The desk: it is told rows of text, one at a time, keeps a text by them, and answers what is asked of it."""

from manymakes.errors import NoGroup, NoOrder, NoSet, TooMany
from manymakes.masks import every, has, how_many, least
from manymakes.phrases import is_number
from manymakes.plainread import read_plain
from manymakes.plainrun import run_plain
from manymakes.reports import dead_rows, faults_of, lonely_rows, sound_ones
from manymakes.sharedread import read_shared
from manymakes.sharedrun import run_shared
from manymakes.texts import cut_rows, cut_text, read_rows, read_words
from manymakes.tidying import parted, tidied
from manymakes.wishes import read_wish, shown_wish

MOST_SWITCHES = 6
MOST_ROWS = 60
MOST_STEPS = 400
LONGEST_NUMBER = 6

# What stands behind each first word.
FORMS = {
    "switches": ("number",), "rule": ("wish",), "row": ("text",), "tidy": (), "keep": (),
    "text": (), "wish": ("wish",), "cut": ("number",), "dead": (), "lonely": (), "faults": (),
    "run": ("number", "most"), "runs": ("most",), "part": (),
}


class Desk:
    """A desk: its switches, its rule, the rows of its text, and the text that is kept."""

    def __init__(self):
        self.n = 0
        self.rule = every(0)
        self.rows = []
        # None where nothing is kept.
        self.kept = None

    def say(self, row):
        """Takes one row of text, and answers it with a list of texts; NoOrder where it is of no form."""
        order = read_order(row)
        if order[0] in ("switches", "rule", "row", "tidy", "keep"):
            self.change(order)
            return []
        return self.answer(order)

    def change(self, order):
        """Does what an order asks for that has no answer."""
        word = order[0]
        if word == "switches":
            self.begin(order[1])
        elif word == "rule":
            self.rule = read_wish(order[1], self.n)
        elif word == "row":
            self.put_row(order[1])
        elif word == "keep":
            self.kept = self.whole()
        elif len(self.rows) > 0:
            self.rows = tidied(self.whole(), self.n, self.rule).split("\n")

    def begin(self, n):
        """Begins anew, with so many switches."""
        if n > MOST_SWITCHES:
            raise NoSet("a desk has no room for so many switches")
        self.n = n
        self.rule = every(n)
        self.rows = []
        self.kept = None

    def put_row(self, row):
        """One more row behind those of the text."""
        at = len(self.rows)
        if at >= MOST_ROWS:
            raise TooMany(MOST_ROWS)
        if "\n" in row:
            raise NoGroup(at)
        read_words(row, self.n, at)
        self.rows.append(row)

    def whole(self):
        """The text; that without rows has no signs."""
        return "\n".join(self.rows)

    def answer(self, order):
        """The answer to an order that changes nothing."""
        word = order[0]
        text = self.whole()
        if word == "text":
            return text.split("\n")
        if word == "wish":
            return [self.wish_text(order[1])]
        if word == "cut":
            return cut_text(text, self.n, order[1]).split("\n")
        if word == "dead":
            return [str(at) for at in dead_rows(read_rows(text, self.n), self.rule)]
        if word == "lonely":
            return [str(at) for at in lonely_rows(read_rows(text, self.n), self.rule)]
        if word == "faults":
            return [fault_text(fault) for fault in faults_of(text, self.n, self.rule)]
        if word == "run":
            return [self.run_text(order[1], order[2])]
        if word == "runs":
            return self.run_texts(order[1])
        return [self.part_text()]

    def wish_text(self, text):
        """A WISH shown, how many settings of the rule it has, and the least of these."""
        mask = read_wish(text, self.n)
        here = mask & self.rule
        return in_blanks([shown_wish(mask, self.n), how_many(here), "none" if here == 0 else least(here)])

    def run_text(self, s, most):
        """The answer of the plain run of the text cut to a sound setting."""
        text = self.whole()
        if not has(sound_ones(text, self.n, self.rule), s):
            raise NoSet("this is no sound setting")
        answer = run_plain(read_plain(cut_rows(read_rows(text, self.n), s)), most)
        return in_blanks([answer[0], len(answer[2])] + list(answer[1]))

    def run_texts(self, most):
        """The answers of the shared run over the sound settings, one for each part."""
        text = self.whole()
        sound = sound_ones(text, self.n, self.rule)
        tree = read_shared(read_rows(text, self.n), sound)[0]
        parts = run_shared(tree, sound, most)[0]
        return [in_blanks([least(mask), how_many(mask), value[0], value[2]] + list(value[1])) for mask, value in parts]

    def part_text(self):
        """The least setting of the rule at which the kept text and the text are unlike; NoOrder where none is kept."""
        if self.kept is None:
            raise NoOrder("nothing is kept")
        s = parted(self.kept, self.whole(), self.n, self.rule)
        return "alike" if s is None else str(s)


def read_order(row):
    """The first word of what is said, and what stands behind it, numbers as whole numbers; NoOrder for no form."""
    if not isinstance(row, str):
        raise NoOrder("what is said is no text")
    # A TEXT may have blanks: it is all that follows.
    words = ["row", row[4:]] if row.startswith("row ") else row.split(" ")
    forms = FORMS.get(words[0])
    if forms is None or len(words) != 1 + len(forms):
        raise NoOrder("this is none of the orders of a desk")
    return [words[0]] + [read_word(word, form) for word, form in zip(words[1:], forms)]


def read_word(word, form):
    """What a word behind the first one says, where this form is due."""
    if form == "text":
        return word
    if form == "wish":
        # A line feed is no sign of a word: so it is of no form, as a blank is.
        if any([sign < "!" for sign in word]):
            raise NoOrder("this is no word")
        return word
    if not is_number(word) or len(word) > LONGEST_NUMBER:
        raise NoOrder("this is no number that a desk takes")
    if form == "most" and int(word) > MOST_STEPS:
        raise NoOrder("these are more steps than a run may have")
    return int(word)


def fault_text(fault):
    """A fault (at, what, name, how many, the least one) as a text."""
    name = "-" if fault[2] == "" else fault[2]
    return in_blanks([fault[0], fault[1], name, fault[3], fault[4]])


def in_blanks(values):
    """Texts and whole numbers as one text, parted by blanks."""
    return " ".join([str(value) for value in values])
