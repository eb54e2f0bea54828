"""Joining: plain texts, one for each setting, put together into one text with groups."""

from manymakes.texts import in_group


def joined(texts, n):
    """A text over n switches that is, cut to setting i, the text at place i of the list, empty rows aside."""
    # The rows of all texts so far, each with the settings that have it, in an order that keeps that of each text.
    rows = []
    for s, text in enumerate(texts):
        own = [row for row in text.split("\n") if row != ""]
        rows = put_together(rows, own, 1 << s)
    # Settings behind the list's end are free: a row that all texts have needs no group.
    full = (1 << len(texts)) - 1
    return "\n".join([row if mask == full else in_group(row, mask, n) for row, mask in rows])


def put_together(rows, own, mask):
    """Tuples (row, mask) with the rows of one more text, of this mask, put in; as many as can be are shared."""
    many = most_shared([row for row, there in rows], own)
    # From the end on, the last ones first.
    found = []
    here = len(rows)
    place = len(own)
    while here > 0 and place > 0:
        pair = rows[here - 1]
        row = own[place - 1]
        if pair[0] == row:
            found.append((row, pair[1] | mask))
            here = here - 1
            place = place - 1
        elif many[here - 1][place] > many[here][place - 1]:
            found.append(pair)
            here = here - 1
        else:
            found.append((row, mask))
            place = place - 1
    return rows[:here] + [(row, mask) for row in own[:place]] + list(reversed(found))


def most_shared(left, right):
    """By places in two lists of rows: how many rows, in order, both can share ahead of these places."""
    many = [[0] * (len(right) + 1)]
    for row in left:
        above = many[-1]
        counts = [0]
        for place, other in enumerate(right):
            if row == other:
                counts.append(above[place] + 1)
            else:
                counts.append(max(above[place + 1], counts[-1]))
        many.append(counts)
    return many
