"""Shared trees cut to a setting, and kept to a mask."""

from manymakes.masks import has, least


def cut_tree(tree, s):
    """The plain tree of setting s."""
    return [cut_statement(one, s) for mask, one in tree if has(mask, s)]


def cut_statement(one, s):
    """A statement with its blocks cut to setting s."""
    # Of all that a statement holds, its blocks alone are lists.
    return tuple([cut_tree(part, s) if isinstance(part, list) else part for part in one])


def kept_tree(tree, mask):
    """The shared tree with the settings of the mask alone."""
    kept = [(there & mask, kept_statement(one, mask)) for there, one in tree if there & mask != 0]
    # With settings gone, others of one row can be the least.
    return sorted(kept, key=row_and_least)


def kept_statement(one, mask):
    """A statement with its blocks kept to the mask."""
    return tuple([kept_tree(part, mask) if isinstance(part, list) else part for part in one])


def row_and_least(pair):
    """By what the tuples of a list are put in order: the statement's row, then the least setting."""
    return (pair[1][1], least(pair[0]))


def shared_of(tree):
    """A plain tree as a shared one, of setting 0 alone."""
    return [(1, shared_statement(one)) for one in tree]


def shared_statement(one):
    """A plain statement with its blocks as those of a shared tree of setting 0."""
    return tuple([shared_of(part) if isinstance(part, list) else part for part in one])


def blocks_of(one):
    """The blocks of a statement: the body of a def or while, then and other of an if."""
    return [part for part in one if isinstance(part, list)]
