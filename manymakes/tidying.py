"""Tidying: texts with groups brought into one form by a rule, and two of them held against each other."""

from manymakes.errors import NoSet
from manymakes.masks import is_mask, settings
from manymakes.texts import cut_rows, in_group, read_rows


def tidied(text, n, rule):
    """The text with the settings of the rule alone, no group in another one, as few groups as can be."""
    ask_rule(rule, n)
    return "\n".join([tidied_row(row, n, rule) for row in read_rows(text, n)])


def ask_rule(rule, n):
    """NoSet where the rule, whatever it is, is no mask over n switches."""
    if not is_mask(rule, n):
        raise NoSet("this rule is no mask over so many switches")


def tidied_row(row, n, rule):
    """A row of plain words (word, mask) as a text, by the rule."""
    pieces = []
    for mask, words in come_together(row, rule):
        piece = " ".join(words)
        pieces.append(piece if mask == rule else in_group(piece, mask, n))
    return " ".join(pieces)


def come_together(row, rule):
    """The words of a row that stand in settings of the rule: tuples (mask, words), neighbours unlike in masks."""
    found = []
    for word, mask in row:
        here = mask & rule
        if len(found) > 0 and found[-1][0] == here:
            found[-1][1].append(word)
        elif here != 0:
            found.append((here, [word]))
    return found


def parted(one, other, n, rule):
    """The least setting of the rule at which two texts are cut to unlike ones, None where there is none."""
    ask_rule(rule, n)
    left = read_rows(one, n)
    right = read_rows(other, n)
    for s in settings(rule):
        if cut_rows(left, s) != cut_rows(right, s):
            return s
    return None
