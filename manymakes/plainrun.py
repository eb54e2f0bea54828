"""The plain run: a plain tree without faults, run row by row."""

from manymakes.names import expr_of, exprs_in

# Numbers go round: they lie below this one.
ROUND = 1000000000000000000
MOST_RUNNINGS = 6


class RunEnd(Exception):
    """The end of a run ahead of the main's end: long, deep or unset."""

    def __init__(self, outcome):
        self.outcome = outcome


class PlainRun:
    """A run: what it goes by, what it has told, and the rows that it has run.

    Names are those of one running of a body, with their values; depth tells within how many runnings of defs that is.
    """

    def __init__(self, tree, most):
        self.firsts = first_ones(tree)
        self.most = most
        self.told = []
        self.log = []

    def run_rows(self, statements, names, depth):
        """Runs statements of a body; tells what a give gives, None where none is come to."""
        for one in statements:
            given = self.run_row(one, names, depth)
            if given is not None:
                return given
        return None

    def run_row(self, one, names, depth):
        """Runs a statement; tells what a give gives, None where none is come to."""
        word = one[0]
        if word in ("kind", "def"):
            return None
        if word == "while":
            return self.run_while(one, names, depth)
        value = self.step(one, names, depth)
        if word == "give":
            return value
        if word == "if":
            return self.run_rows(one[3] if value == "yes" else one[4], names, depth)
        if word == "set":
            names[one[2]] = value
        else:
            self.told.append(value)
        return None

    def run_while(self, one, names, depth):
        """Runs a while; tells what a give gives, None where none is come to."""
        while self.step(one, names, depth) == "yes":
            given = self.run_rows(one[3], names, depth)
            if given is not None:
                return given
        return None

    def step(self, one, names, depth):
        """Writes a row in the log, and tells the value of its EXPR."""
        if len(self.log) >= self.most:
            raise RunEnd("long")
        self.log.append(one[1])
        return self.value_of(expr_of(one), names, depth)

    def value_of(self, e, names, depth):
        """The value of an EXPR."""
        word = e[0]
        if word in ("num", "truth"):
            return e[1]
        if word == "name":
            if e[1] not in names:
                raise RunEnd("unset")
            return names[e[1]]
        values = []
        for inner in exprs_in(e):
            values.append(self.value_of(inner, names, depth))
        if word == "do":
            return self.given_by(e[1], values, depth)
        if word == "new":
            return (e[1],) + tuple(values)
        if word == "of":
            return field_value(values[0], e[1], self.firsts[("kind", values[0][0])])
        return reckoned(word, values)

    def given_by(self, name, values, depth):
        """What the def of that name gives for these values."""
        if depth >= MOST_RUNNINGS:
            raise RunEnd("deep")
        one = self.firsts[("def", name)]
        return self.run_rows(one[5], dict(zip([param for param, kind in one[4]], values)), depth + 1)


def first_ones(tree):
    """By word and NAME, the first def or kind row of a plain tree."""
    found = {}
    for one in tree:
        if one[0] in ("def", "kind"):
            found.setdefault((one[0], one[2]), one)
    return found


def field_value(record, field, one):
    """The field of a record, by its kind's row."""
    return record[1 + [name for name, kind in one[3]].index(field)]


def reckoned(word, values):
    """What an operator, or not, makes of the values of its EXPRs."""
    left = values[0]
    right = values[-1]
    if word == "+":
        return (left + right) % ROUND
    if word == "-":
        return (left - right) % ROUND
    if word == "*":
        return (left * right) % ROUND
    if word == "less":
        return truth_text(left < right)
    if word == "same":
        return truth_text(left == right)
    if word == "and":
        return truth_text(left == "yes" and right == "yes")
    if word == "or":
        return truth_text(left == "yes" or right == "yes")
    return truth_text(left == "no")


def truth_text(so):
    """The language's text for a truth."""
    return "yes" if so else "no"


def run_plain(tree, most):
    """The answer of a plain run of at most so many steps: (outcome, told, log)."""
    run = PlainRun(tree, most)
    try:
        run.run_rows(tree, {}, 0)
    except RunEnd as e:
        return (e.outcome, tuple(run.told), run.log)
    return ("done", tuple(run.told), run.log)
