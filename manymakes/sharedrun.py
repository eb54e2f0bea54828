"""The shared run: a shared tree, run for all settings of a mask at once."""

from manymakes.cutting import kept_tree
from manymakes.masks import add_to, all_of, kept_pairs, without
from manymakes.names import expr_of, exprs_in, first_rows
from manymakes.parts import covered, kept_to, mapped, one_form, paired, put_over
from manymakes.plainrun import MOST_RUNNINGS, field_value, reckoned


class Running:
    """A running of a body, for all settings that come to it together."""

    def __init__(self, names, depth):
        # By each name the parts of its values.
        self.names = names
        # Within how many runnings of defs this one is, itself among them.
        self.depth = depth
        # What was given so far: tuples (mask, value), masks apart.
        self.given = []


class SharedRun:
    """A run: what it goes by, the parts of what it has told and of its steps, its log, and the settings at an end.

    What runs statements tells the settings that come out behind them: neither at an end nor behind a give.
    What reckons an EXPR tells parts of its values, for the settings that are not at an end behind it.
    """

    def __init__(self, tree, mask, most):
        self.firsts = first_rows(tree)
        self.most = most
        self.told = one_form([(mask, ())])
        self.steps = one_form([(mask, 0)])
        self.log = []
        # By outcome, the settings that are at an end.
        self.ends = {}

    def run_rows(self, mask, statements, body):
        """Runs statements of a body."""
        for there, one in statements:
            here = there & mask
            if here != 0 and one[0] not in ("kind", "def"):
                mask = without(mask, here) | self.run_row(here, one, body)
        return mask

    def run_row(self, mask, one, body):
        """Runs a statement."""
        word = one[0]
        if word == "while":
            return self.run_while(mask, one, body)
        values = self.step(mask, one, body)
        if word == "give":
            body.given.extend(values)
            return 0
        if word == "if":
            then = self.run_rows(where(values, "yes"), one[3], body)
            return then | self.run_rows(where(values, "no"), one[4], body)
        if word == "set":
            body.names[one[2]] = put_over(body.names.get(one[2], []), values)
        else:
            self.told = put_over(self.told, paired(self.told, values, with_one_more))
        return covered(values)

    def run_while(self, mask, one, body):
        """Runs a while: the settings that go on stay together, those that are through wait behind it."""
        through = 0
        while mask != 0:
            values = self.step(mask, one, body)
            through = through | where(values, "no")
            mask = self.run_rows(where(values, "yes"), one[3], body)
        return through

    def step(self, mask, one, body):
        """Writes a row in the log for all settings that have a step left, and tells the values of its EXPR."""
        over = all_of([pair for pair in kept_pairs(self.steps, mask) if pair[1] >= self.most])
        add_to(self.ends, "long", over)
        here = without(mask, over)
        if here == 0:
            return []
        self.log.append((here, one[1]))
        self.steps = put_over(self.steps, mapped(kept_to(self.steps, here), lambda many: many + 1))
        return self.values_of(here, expr_of(one), body)

    def values_of(self, mask, e, body):
        """Reckons an EXPR."""
        word = e[0]
        if word in ("num", "truth"):
            return one_form([(mask, e[1])])
        if word == "name":
            return self.named(mask, e[1], body)
        # The values of the EXPRs within it, together.
        found = one_form([(mask, ())])
        for inner in exprs_in(e):
            found = paired(found, self.values_of(covered(found), inner, body), with_one_more)
        if word == "do":
            return self.given_by(found, e[1], body)
        if word == "new":
            return mapped(found, lambda values: (e[1],) + values)
        if word == "of":
            return self.field_values(found, e[1])
        return mapped(found, lambda values: reckoned(word, values))

    def named(self, mask, name, body):
        """The values of a name; the settings in which it has none are at an end."""
        values = kept_to(body.names.get(name, []), mask)
        add_to(self.ends, "unset", without(mask, covered(values)))
        return values

    def given_by(self, found, name, body):
        """What the defs of that name give for these values."""
        if body.depth >= MOST_RUNNINGS:
            add_to(self.ends, "deep", covered(found))
            return []
        given = []
        for here, one in kept_pairs(self.firsts[("def", name)], covered(found)):
            names = {}
            for place, pair in enumerate(one[4]):
                names[pair[0]] = mapped(kept_to(found, here), lambda values: values[place])
            inner = Running(names, body.depth + 1)
            self.run_rows(here, one[5], inner)
            given.extend(inner.given)
        return one_form(given)

    def field_values(self, found, field):
        """The field of records, by their kinds' rows."""
        pairs = []
        for mask, values in found:
            record = values[0]
            for here, one in kept_pairs(self.firsts[("kind", record[0])], mask):
                pairs.append((here, field_value(record, field, one)))
        return one_form(pairs)

    def answers(self, mask):
        """The parts of (outcome, told, how many steps)."""
        early = [(there, outcome) for outcome, there in self.ends.items()]
        outcomes = one_form(early + [(without(mask, all_of(early)), "done")])
        told = paired(outcomes, self.told, lambda outcome, values: (outcome, values))
        return paired(told, self.steps, with_one_more)


def with_one_more(values, value):
    """A tuple with one more value behind."""
    return values + (value,)


def where(parts, value):
    """The settings that have this value."""
    return all_of([pair for pair in parts if pair[1] == value])


def run_shared(tree, mask, most):
    """The answer of a shared run over the mask, of at most so many steps: (parts, log)."""
    kept = kept_tree(tree, mask)
    run = SharedRun(kept, mask, most)
    run.run_rows(mask, kept, Running({}, 0))
    return (run.answers(mask), run.log)
