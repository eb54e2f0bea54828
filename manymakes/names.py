"""Faults of names: defs, kinds and names of a tree that are used and are not there, or are there twice."""

from manymakes.cutting import blocks_of, kept_tree, shared_of
from manymakes.masks import add_to, all_of, kept_pairs, with_masks, without
from manymakes.phrases import PLAIN_KINDS


class NameLook:
    """What is found in a shared tree: its defs and kinds, and the faults, by (at, what, name)."""

    def __init__(self, tree):
        self.firsts = first_rows(tree)
        self.faults = {}

    def note(self, mask, at, what, name):
        """A fault, in the settings of the mask, perhaps in none."""
        add_to(self.faults, (at, what, name), mask)

    def look_twice(self, tree):
        """Looks for defs and kinds whose NAME stands above."""
        above = {}
        for mask, one in tree:
            if one[0] in ("def", "kind"):
                self.note(mask & above.get(one[2], 0), one[1], "twice", one[2])
                add_to(above, one[2], mask)

    def look_body(self, statements, given):
        """Goes over statements of one body; given tells of each name in which settings it is set above."""
        for mask, one in statements:
            if one[0] == "def":
                self.look_def(mask, one)
            elif one[0] != "kind":
                self.look_expr(mask, expr_of(one), one[1], given)
                if one[0] == "set":
                    add_to(given, one[2], mask)
                for block in blocks_of(one):
                    self.look_body(block, given)

    def look_def(self, mask, one):
        """Goes over a def: its KIND, its params, and its body."""
        for kind in [one[3]] + [kind for name, kind in one[4]]:
            if kind not in PLAIN_KINDS:
                self.note(without(mask, self.held("kind", kind)), one[1], "nokind", kind)
        self.look_body(one[5], dict([(name, mask) for name, kind in one[4]]))

    def look_expr(self, mask, e, at, given):
        """Goes over an EXPR of row number at, and over all within it."""
        if e[0] == "name":
            self.note(without(mask, given.get(e[1], 0)), at, "unset", e[1])
        elif e[0] == "do":
            self.look_use(mask, e, at, "def", "nofunc")
        elif e[0] == "new":
            self.look_use(mask, e, at, "kind", "nokind")
        for inner in exprs_in(e):
            self.look_expr(mask, inner, at, given)

    def look_use(self, mask, e, at, word, missing):
        """Asks of a do or new whether there is a row of that word and NAME, and one that takes as many EXPRs."""
        name = e[1]
        self.note(without(mask, self.held(word, name)), at, missing, name)
        for here, one in kept_pairs(self.firsts.get((word, name), []), mask):
            if len(pairs_of(one)) != len(e[2]):
                self.note(here, at, "count", name)

    def held(self, word, name):
        """The settings in which there is a row of that word and NAME."""
        return all_of(self.firsts.get((word, name), []))


def first_rows(tree):
    """By word and NAME, the first def or kind row in each setting: tuples (mask, statement), masks apart."""
    found = {}
    for mask, one in tree:
        if one[0] in ("def", "kind"):
            key = (one[0], one[2])
            rows = found.get(key, [])
            found[key] = rows + kept_pairs([(mask, one)], without(mask, all_of(rows)))
    return found


def pairs_of(one):
    """The params of a def, the fields of a kind."""
    return one[4] if one[0] == "def" else one[3]


def expr_of(one):
    """The EXPR of a statement that is neither a def nor a kind."""
    return one[3] if one[0] == "set" else one[2]


def exprs_in(e):
    """The EXPRs straight within an EXPR."""
    if e[0] in ("num", "truth", "name"):
        return ()
    if e[0] in ("do", "new"):
        return e[2]
    if e[0] == "of":
        return (e[2],)
    return e[1:]


def shared_names(tree, mask):
    """The faults of names of the tree's cuts at the settings of the mask: tuples (mask, at, what, name), sorted."""
    kept = kept_tree(tree, mask)
    look = NameLook(kept)
    look.look_twice(kept)
    look.look_body(kept, {})
    return with_masks(look.faults)


def plain_names(tree):
    """The faults of names of a plain tree: tuples (at, what, name), sorted."""
    return [(at, what, name) for mask, at, what, name in shared_names(shared_of(tree), 1)]
