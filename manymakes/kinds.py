"""Faults of kinds: EXPRs of a tree that stand where another kind is due."""

from manymakes.cutting import blocks_of, kept_tree, shared_of
from manymakes.masks import add_to, all_of, kept_pairs, with_masks, without
from manymakes.names import expr_of, exprs_in, first_rows, pairs_of
from manymakes.phrases import PLAIN_KINDS

# What an EXPR makes, by its word, and of what kind the EXPRs within it have to be.
MAKES = {
    "num": "num", "truth": "truth", "+": "num", "-": "num", "*": "num",
    "less": "truth", "same": "truth", "and": "truth", "or": "truth", "not": "truth",
}
ASKS = {
    "+": "num", "-": "num", "*": "num", "less": "num", "same": "num", "and": "truth", "or": "truth", "not": "truth",
}


class KindLook:
    """What is found in a shared tree: its defs and kinds, and the faults, by (at, what).

    The kinds of an EXPR or a name are tuples (mask, kind), masks apart; a kind that is not known is None.
    """

    def __init__(self, tree):
        self.firsts = first_rows(tree)
        self.faults = {}

    def note(self, mask, at, what):
        """A fault, in the settings of the mask, perhaps in none."""
        add_to(self.faults, (at, what), mask)

    def look_body(self, statements, names, due):
        """Goes over statements of one body: names tells the kinds of those set above, due the def's KIND."""
        for mask, one in statements:
            if one[0] == "def":
                self.look_def(mask, one)
            elif one[0] != "kind":
                self.look_row(one, self.kinds_of(mask, expr_of(one), one[1], names), names, due)
                for block in blocks_of(one):
                    self.look_body(block, names, due)

    def look_def(self, mask, one):
        """Goes over a def."""
        self.note(without(mask, giving(one[5])), one[1], "give")
        self.look_body(one[5], dict([(name, [(mask, kind)]) for name, kind in one[4]]), one[3])

    def look_row(self, one, kinds, names, due):
        """Asks of a row whether its EXPR, of these kinds, may stand in it."""
        at = one[1]
        if one[0] == "set":
            self.look_set(one, kinds, names)
        elif one[0] == "give":
            self.note(unfit(kinds, due), at, "kind")
        elif one[0] == "tell":
            self.note(all_of([pair for pair in kinds if is_record(pair[1])]), at, "tell")
        else:
            self.note(unfit(kinds, "truth"), at, "truth")

    def look_set(self, one, kinds, names):
        """Asks of a set row whether its EXPR is of its NAME's kind; where that is not set above, it is from here on."""
        known = names.get(one[2], [])
        for mask, kind in kinds:
            if kind is not None:
                self.note(unfit(kept_pairs(known, mask), kind), one[1], "kind")
        names[one[2]] = known + kept_pairs(kinds, without(all_of(kinds), all_of(known)))

    def ask(self, mask, e, due, at, names):
        """Asks of an EXPR whether it is of the kind that is due where it stands."""
        self.note(unfit(self.kinds_of(mask, e, at, names), due), at, "kind")

    def kinds_of(self, mask, e, at, names):
        """The kinds of an EXPR of row number at; all EXPRs within it are asked."""
        if e[0] == "name":
            return kept_pairs(names.get(e[1], []), mask)
        if e[0] == "do":
            rows = self.used_rows(mask, e, "def", at, names)
            return [(here, one[3]) for here, one in rows]
        if e[0] == "new":
            rows = self.used_rows(mask, e, "kind", at, names)
            return [(here, one[2]) for here, one in rows]
        if e[0] == "of":
            found = []
            for here, kind in self.kinds_of(mask, e[2], at, names):
                found.extend(self.field_kinds(here, kind, e[1], at))
            return found
        for inner in exprs_in(e):
            self.ask(mask, inner, ASKS[e[0]], at, names)
        return [(mask, MAKES[e[0]])]

    def used_rows(self, mask, e, word, at, names):
        """The rows that a do or new is of, (mask, statement); each of its EXPRs is asked by them."""
        rows = kept_pairs(self.firsts.get((word, e[1]), []), mask)
        for here, one in rows:
            for inner, pair in zip(e[2], pairs_of(one)):
                self.ask(here, inner, pair[1], at, names)
        return rows

    def field_kinds(self, mask, kind, field, at):
        """The kinds of a field, of an EXPR of this kind."""
        if kind is None:
            return [(mask, None)]
        # Of num and truth there are no kind rows: so they are without the field everywhere.
        rows = kept_pairs(self.firsts.get(("kind", kind), []), mask)
        kinds = [(here, dict(one[3])[field]) for here, one in rows if field in dict(one[3])]
        missing = without(mask, all_of(kinds))
        self.note(missing, at, "field")
        return kinds + kept_pairs([(mask, None)], missing)


def unfit(kinds, due):
    """The settings in which a kind is known, and is another one than is due."""
    return all_of([(mask, kind) for mask, kind in kinds if kind is not None and kind != due])


def is_record(kind):
    """Whether a kind is known, and is that of a kind row."""
    return kind is not None and kind not in PLAIN_KINDS


def giving(body):
    """The settings in which the last statement of a def's block is a give row."""
    found = 0
    for mask, one in body:
        if one[0] == "give":
            found = found | mask
        else:
            found = without(found, mask)
    return found


def shared_kinds(tree, mask):
    """The faults of kinds of the tree's cuts at the settings of the mask: tuples (mask, at, what), sorted."""
    kept = kept_tree(tree, mask)
    look = KindLook(kept)
    look.look_body(kept, {}, None)
    return with_masks(look.faults)


def plain_kinds(tree):
    """The faults of kinds of a plain tree without faults of names: tuples (at, what), sorted."""
    return [(at, what) for mask, at, what in shared_kinds(shared_of(tree), 1)]
