"""Reports: the rows of a text that no setting of a rule has, or one alone; its faults, and its sound settings."""

from manymakes.kinds import shared_kinds
from manymakes.masks import all_of, how_many, least, without
from manymakes.names import shared_names
from manymakes.sharedread import read_shared
from manymakes.texts import read_rows


def dead_rows(rows, rule):
    """The numbers of the rows that have words, but none that stands in a setting of the rule."""
    return [at for at, row in enumerate(rows) if len(row) > 0 and standing(row, rule) == 0]


def lonely_rows(rows, rule):
    """The numbers of the rows that have words standing in just one setting of the rule."""
    return [at for at, row in enumerate(rows) if how_many(standing(row, rule)) == 1]


def standing(row, rule):
    """The settings of the rule in which some words of a row stand."""
    return rule & all_of([(mask, word) for word, mask in row])


def faults_of(text, n, rule):
    """The faults of a text by the rule: tuples (at, what, name, how many settings, the least one), sorted."""
    found = all_faults(text, n, rule)
    return sorted([(at, what, name, how_many(mask), least(mask)) for mask, at, what, name in found])


def sound_ones(text, n, rule):
    """The settings of the rule in which a text has no fault, as a mask."""
    return left_by(all_faults(text, n, rule), rule)


def all_faults(text, n, rule):
    """The faults of a text by the rule: tuples (mask, at, what, name), those of reading, of names, of kinds."""
    read = read_shared(read_rows(text, n), rule)
    tree = read[0]
    found = without_names(read[1])
    # What can't be read has no names, and what has faults of names has no kinds: so each look has fewer settings.
    found = found + shared_names(tree, left_by(found, rule))
    return found + without_names(shared_kinds(tree, left_by(found, rule)))


def without_names(faults):
    """Faults (mask, at, what) with the text without signs in the place of a name."""
    return [(mask, at, what, "") for mask, at, what in faults]


def left_by(faults, rule):
    """The settings of the rule that have none of these faults (mask, at, what, name)."""
    return without(rule, all_of([(fault[0], fault) for fault in faults]))
