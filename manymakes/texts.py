"""Texts with wishes: rows of words, some of them in groups that stand in some settings alone."""

from manymakes.errors import NoGroup, NoSet, NoWish, TooMany
from manymakes.masks import every, has, is_whole, settings
from manymakes.wishes import read_wish, shown_wish

DEEPEST_GROUP = 5
MOST_VARIANTS = 16


def read_rows(text, n):
    """The rows of a text over n switches, each a list of tuples (word, mask) of its plain words."""
    return [read_words(row, n, at) for at, row in enumerate(text.split("\n"))]


def read_words(row, n, at):
    """The plain words of row number at with their masks; NoGroup where the row is wrong."""
    plain = []
    # What stands within all groups that are open, the innermost last; ahead of them what stands in none.
    masks = [every(n)]
    for word in words_of(row):
        if word == "":
            raise NoGroup(at)
        if word == ">":
            masks.pop()
            if len(masks) == 0:
                raise NoGroup(at)
        elif word.startswith("<"):
            if len(masks) > DEEPEST_GROUP:
                raise NoGroup(at)
            masks.append(masks[-1] & group_mask(word, n, at))
        else:
            plain.append((word, masks[-1]))
    if len(masks) > 1:
        raise NoGroup(at)
    return plain


def words_of(row):
    """The words of a row; one without signs for each blank that parts nothing."""
    if row == "":
        return []
    return row.split(" ")


def group_mask(word, n, at):
    """The mask of the WISH of a word that opens a group."""
    try:
        return read_wish(word[1:], n)
    except NoWish:
        raise NoGroup(at)


def in_group(row, mask, n):
    """A group of all words of a row, which has some, that stands in just the settings of the mask."""
    return "<" + shown_wish(mask, n) + " " + row + " >"


def cut_row(row, s):
    """Those words of a row that stand in setting s."""
    return [word for word, mask in row if has(mask, s)]


def cut_rows(rows, s):
    """The words of each row that stand in setting s."""
    return [cut_row(row, s) for row in rows]


def cut_text(text, n, s):
    """The text cut to setting s of n switches, with just as many rows."""
    rows = read_rows(text, n)
    if not is_setting(s, n):
        raise NoSet("this is no setting of so many switches")
    return "\n".join([" ".join(words) for words in cut_rows(rows, s)])


def is_setting(s, n):
    """Whether s is a setting of n switches, whatever it is."""
    return is_whole(s) and s >= 0 and s < (1 << n)


def variants(row, mask, at=0):
    """The unlike cuts of a row at the settings of the mask: tuples (mask, words), by their least settings."""
    # Settings come rising, and a dict keeps the order of its keys: so the least settings rise too.
    found = {}
    for s in settings(mask):
        words = tuple(cut_row(row, s))
        found[words] = found.get(words, 0) | (1 << s)
        if len(found) > MOST_VARIANTS:
            raise TooMany(at)
    return [(found[words], words) for words in found]
