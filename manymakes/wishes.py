"""Wishes over switches: read, asked, and shown in their one form."""

from manymakes.errors import NoWish
from manymakes.masks import every, switch_mask, with_off, with_on

LETTERS = "abcdefghij"

# How many WISHes stand behind a sign; the letter behind ? is counted as one.
NEEDS = {"!": 1, "&": 2, "|": 2, "^": 2, "?": 3}


class Wish:
    """A WISH that was read."""

    def __init__(self, text):
        self.text = text

    def mask(self, n):
        """The settings of n switches for which it holds."""
        return mask_of_text(self.text, n)

    def holds(self, s):
        """Whether it holds for setting s."""
        bits = [(s >> k) & 1 for k in range(len(LETTERS))]
        return reckoned(self.text, bits, 1) == 1

    def signs(self):
        """Its text."""
        return self.text


def parse_wish(text, n):
    """The Wish of a text over n switches; NoWish where it is none."""
    mask_of_text(text, n)
    return Wish(text)


def read_wish(text, n):
    """The mask of a WISH over n switches; NoWish where it is none."""
    return mask_of_text(text, n)


def mask_of_text(text, n):
    """The settings of n switches for which the text, a WISH, holds."""
    return reckoned(text, [switch_mask(k, n) for k in range(n)], every(n))


def reckoned(text, switches, full):
    """What a WISH comes to bit by bit, where full stands for 1 and switches[k] for the letter of switch k."""
    # From the end on, the WISHes behind a sign are reckoned already, the first one last:
    # so nothing is called deeper, however deep WISHes nest.
    found = []
    behind = ""
    for sign in reversed(text):
        if len(found) < NEEDS.get(sign, 0):
            raise NoWish(f"{text!r} is cut short")
        if sign == "?" and behind not in LETTERS:
            raise NoWish(f"{text!r} has no letter behind a ?")
        if sign in NEEDS:
            parts = taken(found, NEEDS[sign])
            found.append(put_together(sign, parts, full))
        else:
            found.append(value_of(sign, switches, full))
        behind = sign
    if len(found) != 1:
        raise NoWish(f"{text!r} is not just one WISH")
    return found[0]


def taken(found, many):
    """So many values taken off the end of the list, the last one first."""
    parts = []
    for k in range(many):
        parts.append(found.pop())
    return parts


def value_of(sign, switches, full):
    """What a sign that is a WISH by itself comes to."""
    if sign == "0":
        return 0
    if sign == "1":
        return full
    k = LETTERS.find(sign)
    if k < 0 or k >= len(switches):
        raise NoWish(f"{sign!r} is no sign of a WISH over these switches")
    return switches[k]


def put_together(sign, parts, full):
    """What a sign makes of the values of the WISHes behind it."""
    if sign == "!":
        return full ^ parts[0]
    if sign == "&":
        return parts[0] & parts[1]
    if sign == "|":
        return parts[0] | parts[1]
    if sign == "^":
        return parts[0] ^ parts[1]
    return (parts[0] & parts[1]) | ((full ^ parts[0]) & parts[2])


def shown_wish(mask, n):
    """The one WISH that shows a mask over n switches."""
    # Bits beyond the settings hang on no switch: with them the search for one would have no end.
    return shown_from(0, mask & every(n), n)


def shown_from(k, mask, n):
    """The WISH that shows a mask that hangs on no switch ahead of k."""
    if mask == 0:
        return "0"
    if mask == every(n):
        return "1"
    on = with_on(mask, k, n)
    off = with_off(mask, k, n)
    if on == off:
        return shown_from(k + 1, mask, n)
    return "?" + LETTERS[k] + shown_from(k + 1, on, n) + shown_from(k + 1, off, n)
