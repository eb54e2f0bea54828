"""Parts: a value for each setting of some masks, as a list of tuples (mask, value) that has just one form."""

from manymakes.masks import add_to, all_of, has, kept_pairs, least, without


def one_form(pairs):
    """Tuples (mask, value), masks apart, as parts: no mask 0, values unlike, in the order of their least settings."""
    found = {}
    for mask, value in pairs:
        add_to(found, value, mask)
    return sorted([(mask, value) for value, mask in found.items()], key=least_of)


def least_of(pair):
    """The least setting of a tuple (mask, value)."""
    return least(pair[0])


def kept_to(parts, mask):
    """The parts with the settings of the mask alone."""
    # With settings gone, others can be the least.
    return one_form(kept_pairs(parts, mask))


def put_over(first, others):
    """The others where they tell a value, else the first."""
    left = without(covered(first), covered(others))
    return one_form(kept_pairs(first, left) + others)


def mapped(parts, f):
    """What a function makes of each value."""
    return one_form([(mask, f(value)) for mask, value in parts])


def paired(left, right, f):
    """What a function makes of two values, one of each, for the settings that both have."""
    pairs = []
    for mask, one in left:
        for here, other in kept_pairs(right, mask):
            pairs.append((here, f(one, other)))
    return one_form(pairs)


def value_at(parts, s):
    """The value at setting s, None where there is none."""
    for mask, value in parts:
        if has(mask, s):
            return value
    return None


def covered(parts):
    """All settings that have a value."""
    return all_of(parts)
