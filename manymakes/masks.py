"""Masks: lists of settings, each kept in one whole number."""


def every(n):
    """The mask of all settings of n switches."""
    return (1 << (1 << n)) - 1


def switch_mask(k, n):
    """The mask of the settings of n switches in which switch k, below n, is on."""
    # Counted upwards, settings have switch k off for 2**k of them, then on for as many, and so on.
    run = 1 << k
    mask = ((1 << run) - 1) << run
    width = 2 * run
    while width < (1 << n):
        mask = mask | (mask << width)
        width = 2 * width
    return mask


def is_whole(value):
    """Whether a value, whatever it is, is a whole number; truths are none."""
    return isinstance(value, int) and not isinstance(value, bool)


def is_mask(value, n):
    """Whether a value, whatever it is, is a mask over n switches."""
    return is_whole(value) and value >= 0 and value <= every(n)


def has(mask, s):
    """Whether the mask has setting s."""
    return (mask >> s) & 1 == 1


def settings(mask):
    """All settings of the mask, rising."""
    return [s for s in range(mask.bit_length()) if has(mask, s)]


def how_many(mask):
    """How many settings the mask has."""
    return len(settings(mask))


def least(mask):
    """The least setting of the mask, None where it has none."""
    if mask == 0:
        return None
    # One less has the lowest 1 and the bits below it turned, and no others.
    return (mask ^ (mask - 1)).bit_length() - 1


def with_on(mask, k, n):
    """The settings of n switches that are in the mask once switch k is put on."""
    half = mask & switch_mask(k, n)
    return half | (half >> (1 << k))


def with_off(mask, k, n):
    """The settings of n switches that are in the mask once switch k is put off."""
    half = mask & (every(n) ^ switch_mask(k, n))
    return half | (half << (1 << k))


def without(mask, other):
    """Those settings of the mask that the other one has not."""
    return mask ^ (mask & other)


def all_of(pairs):
    """All settings that tuples (mask, value) have."""
    found = 0
    for mask, value in pairs:
        found = found | mask
    return found


def kept_pairs(pairs, mask):
    """Tuples (mask, value), of each what is in the mask; none that comes to nothing."""
    return [(there & mask, value) for there, value in pairs if there & mask != 0]


def add_to(found, key, mask):
    """Adds settings to those that a key has in a dict of masks; a key without settings does not come in."""
    if mask != 0:
        found[key] = found.get(key, 0) | mask


def with_masks(found):
    """The keys of a dict of masks, tuples all of them, sorted, each with its mask ahead."""
    return [(found[key],) + key for key in sorted(found)]
