"""Texts with wishes written by chance, and what the tests reckon of plain rows by their words alone."""

LETTERS = "abcdefghij"
OPERATORS = ("+", "-", "*", "less", "same", "and", "or")
LANGUAGE = "kind def set tell give if else while end num truth yes no less same and or not do new of + - * .".split()

# Rows by their first words, as often as they are to come.
WORDS = [""] + "kind kind def def set set set tell tell give give if if while else end end end".split()


def full(n):
    return 2 ** 2 ** n - 1


def held(mask):
    """The settings of a mask."""
    return [s for s in range(mask.bit_length()) if mask >> s & 1]


def mask_of(chosen):
    return sum(2 ** s for s in chosen)


def wish(mask, n, k=0, s=0):
    """A WISH that holds in just the settings of the mask, asked switch by switch."""
    if k == n:
        return str(mask >> s & 1)
    return "?" + LETTERS[k] + wish(mask, n, k + 1, s | 1 << k) + wish(mask, n, k + 1, s)


def row_text(cells, n, chance):
    """A row that has, in the settings of each of the cells (mask, words), these words; perhaps with words in common."""
    lists = [list(words) for mask, words in cells]
    ahead, behind = [], []
    if chance.random() < 0.7:
        while all(lists) and len({words[0] for words in lists}) == 1:
            ahead.append([words.pop(0) for words in lists][0])
        while all(lists) and len({words[-1] for words in lists}) == 1:
            behind.insert(0, [words.pop() for words in lists][0])
    groups = []
    for (mask, words), left in zip(cells, lists):
        if left:
            groups.append(" ".join(["<" + wish(mask, n)] + left + [">"]))
    return " ".join(ahead + groups + behind)


def some_cells(chance, n):
    """Masks apart that come to all settings together: one, two that are opposites, or some more."""
    parts = chance.choice((1, 1, 1, 2, 2, 2, 3, 4))
    if parts == 2 and n > 0 and chance.random() < 0.6:
        k = chance.randrange(n)
        on = mask_of([s for s in range(2 ** n) if s >> k & 1])
        return [on, full(n) ^ on]
    places = [chance.randrange(parts) for s in range(2 ** n)]
    masks = [mask_of([s for s in range(2 ** n) if places[s] == part]) for part in range(parts)]
    return [mask for mask in masks if mask]


def some_mask(chance, n):
    """All settings, some, or none."""
    return chance.choice((full(n), full(n), chance.randrange(full(n) + 1), 0 if chance.random() < 0.2 else full(n)))


def moved(within, word):
    """Where a plain row that begins with this word leads, within a text of blocks' letters; None where it is wrong."""
    if word in ("kind", "def") and within or word == "give" and "d" not in within:
        return None
    if word in ("if", "while") and len(within) == 4:
        return None
    if word == "end":
        return within[:-1] if within else None
    if word == "else":
        return within[:-1] + "e" if within.endswith("i") else None
    return within + word[0] if word in ("def", "if", "while") else within


def shared_text(chance, n, length, some_row, wrong=0.03):
    """A text over n switches of so many rows, and ends behind them; some_row(chance, word) tells a row of that word.

    Most rows may stand where they come.
    """
    return "\n".join(shared_rows(chance, n, length, some_row, wrong, WORDS, ""))


def shared_rows(chance, n, length, some_row, wrong, choice, begin):
    """The rows of shared_text, of these first words, within blocks that are begun above and are not ended here."""
    within = {s: begin for s in range(2 ** n)}
    rows = []

    def leads(s, word):
        behind = moved(within[s], word)
        return behind if behind is not None and len(behind) >= len(begin) else None

    for count in range(length):
        cells = []
        for mask in some_cells(chance, n):
            word = chance.choice([word for word in choice if chance.random() < wrong or all(
                within[s] is None or leads(s, word) is not None for s in held(mask))])
            cells.append((mask, some_row(chance, word)))
            for s in held(mask):
                within[s] = None if within[s] is None else leads(s, word)
        rows.append(row_text(cells, n, chance))
    for deep in range(4 - len(begin)):
        ending = [s for s in within if within[s] not in (None, begin) and chance.random() > wrong]
        others = [s for s in within if s not in ending]
        cells = [(mask_of(ending), ["end"]), (mask_of(others), [])]
        if ending:
            rows.append(row_text([cell for cell in cells if cell[0]], n, chance))
        for s in ending:
            within[s] = within[s][:-1]
    return rows


def is_name(word):
    return word.isalpha() and word.islower() and word not in LANGUAGE


def taken_expr(words):
    """An EXPR taken off the front of a list of words: (word, the NAME behind it or None, the EXPRs in it)."""
    word = words.pop(0)
    if word in ("do", "new"):
        name, inner = words.pop(0), []
        while words[0] != ".":
            inner.append(taken_expr(words))
        words.pop(0)
        return word, name, inner
    if word == "of":
        return word, words.pop(0), [taken_expr(words)]
    many = 2 if word in OPERATORS else 1 if word == "not" else 0
    return word, None, [taken_expr(words) for count in range(many)]


def all_exprs(e):
    """An EXPR and all within it."""
    return [e] + [found for inner in e[2] for found in all_exprs(inner)]


def pairs_behind(words):
    """NAME and KIND, two by two."""
    return list(zip(words[0::2], words[1::2]))


class Row:
    """A plain row that can be read, in a text that can be: its words, its body and what it holds."""

    def __init__(self, at, words, body):
        self.at = at
        self.words = words
        # The number of the def's row; None for the top.
        self.body = body
        self.word = words[0]
        self.name = words[1] if self.word in ("kind", "def", "set") else None
        self.pairs = pairs_behind(words[2:] if self.word == "kind" else words[3:] if self.word == "def" else [])
        self.e = None
        if self.word in ("set", "tell", "give", "if", "while"):
            self.e = taken_expr(list(words[2 if self.word == "set" else 1:]))


def rows_by_body(rows):
    """The rows of a plain text that have words and are no else, each with its body; ends among them, of their block's body."""
    found, opened, body = [], 0, None
    for at, words in enumerate(rows):
        if words and words[0] == "def":
            found.append(Row(at, words, None))
            opened, body = 1, at
        elif words and words[0] == "end":
            opened -= 1
            found.append(Row(at, words, body))
            body = body if opened else None
        elif words and words[0] != "else":
            found.append(Row(at, words, body))
            opened += words[0] in ("if", "while")
    return found
