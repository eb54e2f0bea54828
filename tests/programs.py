"""Texts with wishes written by chance, and what the tests reckon of rows by their words alone."""

import functools
import itertools
import re

LETTERS = "abcdefghij"
OPERATORS = ("+", "-", "*", "less", "same", "and", "or")
LANGUAGE = "kind def set tell give if else while end num truth yes no less same and or not do new of + - * .".split()

# Rows by their first words, as often as they are to come.
WORDS = [""] + "kind kind def def set set set tell tell give give if if while else end end end".split()


def full(n):
    return 2 ** 2 ** n - 1


def held(mask):
    """The settings of a mask."""
    return [s for s in range(mask.bit_length()) if mask >> s & 1]


def mask_of(chosen):
    return sum(2 ** s for s in chosen)


def wish(mask, n, k=0, s=0):
    """A WISH that holds in just the settings of the mask, asked switch by switch."""
    if k == n:
        return str(mask >> s & 1)
    return "?" + LETTERS[k] + wish(mask, n, k + 1, s | 1 << k) + wish(mask, n, k + 1, s)


def holds(wish, s):
    """Whether a WISH, read from the front, holds for a setting, and what is left behind it."""
    sign, rest = wish[0], wish[1:]
    if sign in "01":
        return sign == "1", rest
    if sign in LETTERS:
        return s // 2 ** LETTERS.index(sign) % 2 == 1, rest
    one, rest = holds(rest, s)
    if sign == "!":
        return not one, rest
    other, rest = holds(rest, s)
    if sign == "?":
        third, rest = holds(rest, s)
        return (other if one else third), rest
    return {"&": one and other, "|": one or other, "^": one != other}[sign], rest


@functools.lru_cache(100000)
def holding(wish, s):
    return holds(wish, s)[0]


def cut_by_hand(row, s):
    """The words of a right row that stand in a setting, by points 11 and 13."""
    out, around = [], []
    for word in row.split(" ") if row else []:
        if word == ">":
            around.pop()
        elif word[0] == "<":
            around.append(holding(word[1:], s))
        elif all(around):
            out.append(word)
    return out


def read_by_hand(row, n):
    """The plain words of a right row with their masks, each put under its groups by hand."""
    out, around = [], []
    for word in row.split(" ") if row else []:
        if word == ">":
            around.pop()
        elif word[0] == "<":
            around.append(word[1:])
        else:
            out.append((word, sum(2 ** s for s in range(2 ** n) if all(holding(wish, s) for wish in around))))
    return out


def shown_by_hand(mask, n):
    """Point 8 word for word, over the settings of the mask one by one."""
    return shown_settings(frozenset(s for s in range(2 ** n) if mask // 2 ** s % 2 == 1), n)


def shown_settings(chosen, n):
    if not chosen:
        return "0"
    if len(chosen) == 2 ** n:
        return "1"
    for k in range(n):
        if any((s in chosen) != (s ^ 2 ** k in chosen) for s in range(2 ** n)):
            on = frozenset(s for s in range(2 ** n) if s | 2 ** k in chosen)
            off = frozenset(s for s in range(2 ** n) if (s | 2 ** k) - 2 ** k in chosen)
            return "?" + LETTERS[k] + shown_settings(on, n) + shown_settings(off, n)
    raise AssertionError("a mask that is neither empty nor full hangs on a switch")


def whole_cut(text, s):
    """A text cut by hand."""
    return "\n".join(" ".join(cut_by_hand(row, s)) for row in text.split("\n"))


def tidied_by_hand(row, n, rule):
    """Point 35 for one row: its words by themselves, then those beside each other that stand in the same settings."""
    standing = [(word, mask & rule) for word, mask in read_by_hand(row, n) if mask & rule]
    words = []
    for mask, some in itertools.groupby(standing, key=lambda pair: pair[1]):
        group = [word for word, same in some]
        words += group if mask == rule else ["<" + shown_by_hand(mask, n)] + group + [">"]
    return " ".join(words)


def some_wish(chance, n, deep=3):
    leaves = ["0", "1"] + 4 * list(LETTERS[:n])
    if deep == 1 or chance.random() < 0.4:
        return chance.choice(leaves)
    form = chance.choice("!&|^?" if n else "!&|^")
    if form == "!":
        return form + some_wish(chance, n, deep - 1)
    ahead = form + chance.choice(LETTERS[:n]) if form == "?" else form
    return ahead + some_wish(chance, n, deep - 1) + some_wish(chance, n, deep - 1)


def grouped_row(chance, n, most=14):
    """A row that is right, with groups in one another up to five deep."""
    words, deep = [], 0
    for count in range(chance.randrange(most)):
        way = chance.choice("<<>www")
        if way == "<" and deep < 5:
            words.append("<" + some_wish(chance, n))
            deep += 1
        elif way == ">" and deep:
            words.append(">")
            deep -= 1
        else:
            words.append(chance.choice(["x", "tell", "+", "12", "~", "!", "a>", ">>", ">=", "x<a", "=<", "-", "\"", "\\"]))
    return " ".join(words + [">"] * deep)


def row_text(cells, n, chance):
    """A row that has, in the settings of each of the cells (mask, words), these words; perhaps with words in common."""
    lists = [list(words) for mask, words in cells]
    ahead, behind = [], []
    if chance.random() < 0.7:
        while all(lists) and len({words[0] for words in lists}) == 1:
            ahead.append([words.pop(0) for words in lists][0])
        while all(lists) and len({words[-1] for words in lists}) == 1:
            behind.insert(0, [words.pop() for words in lists][0])
    groups = []
    for (mask, words), left in zip(cells, lists):
        if left:
            groups.append(" ".join(["<" + wish(mask, n)] + left + [">"]))
    return " ".join(ahead + groups + behind)


def some_cells(chance, n):
    """Masks apart that come to all settings together: one, two that are opposites, or some more."""
    parts = chance.choice((1, 1, 1, 2, 2, 2, 3, 4))
    if parts == 2 and n > 0 and chance.random() < 0.6:
        k = chance.randrange(n)
        on = mask_of([s for s in range(2 ** n) if s >> k & 1])
        return [on, full(n) ^ on]
    places = [chance.randrange(parts) for s in range(2 ** n)]
    masks = [mask_of([s for s in range(2 ** n) if places[s] == part]) for part in range(parts)]
    return [mask for mask in masks if mask]


def some_mask(chance, n):
    """All settings, some, or none."""
    return chance.choice((full(n), full(n), chance.randrange(full(n) + 1), 0 if chance.random() < 0.2 else full(n)))


def moved(within, word):
    """Where a plain row that begins with this word leads, within a text of blocks' letters; None where it is wrong."""
    if word in ("kind", "def") and within or word == "give" and "d" not in within:
        return None
    if word in ("if", "while") and len(within) == 4:
        return None
    if word == "end":
        return within[:-1] if within else None
    if word == "else":
        return within[:-1] + "e" if within.endswith("i") else None
    return within + word[0] if word in ("def", "if", "while") else within


def shared_text(chance, n, length, some_row, wrong=0.03):
    """A text over n switches of so many rows, and ends behind them; some_row(chance, word) tells a row of that word.

    Most rows may stand where they come.
    """
    return "\n".join(shared_rows(chance, n, length, some_row, wrong, WORDS, ""))


def shared_rows(chance, n, length, some_row, wrong, choice, begin):
    """The rows of shared_text, of these first words, within blocks that are begun above and are not ended here."""
    within = {s: begin for s in range(2 ** n)}
    rows = []

    def leads(s, word):
        behind = moved(within[s], word)
        return behind if behind is not None and len(behind) >= len(begin) else None

    for count in range(length):
        cells = []
        for mask in some_cells(chance, n):
            word = chance.choice([word for word in choice if chance.random() < wrong or all(
                within[s] is None or leads(s, word) is not None for s in held(mask))])
            cells.append((mask, some_row(chance, word)))
            for s in held(mask):
                within[s] = None if within[s] is None else leads(s, word)
        rows.append(row_text(cells, n, chance))
    for deep in range(4 - len(begin)):
        ending = [s for s in within if within[s] not in (None, begin) and chance.random() > wrong]
        others = [s for s in within if s not in ending]
        cells = [(mask_of(ending), ["end"]), (mask_of(others), [])]
        if ending:
            rows.append(row_text([cell for cell in cells if cell[0]], n, chance))
        for s in ending:
            within[s] = within[s][:-1]
    return rows


def is_name(word):
    return re.fullmatch("[a-z]{1,8}", word) is not None and word not in LANGUAGE


def is_kind(word):
    return word in ("num", "truth") or is_name(word)


def depth_taken(words):
    """How deep the EXPR is that is taken off the front of a list of words; LookupError where there is none."""
    word = words.pop(0)
    if is_name(word) or word in ("yes", "no") or re.fullmatch("0|[1-9][0-9]{0,17}", word):
        return 1
    many = 2 if word in OPERATORS else 1 if word in ("not", "of") else None
    if word in ("do", "new", "of") and not is_name(words.pop(0)) or word not in OPERATORS + ("not", "do", "new", "of"):
        raise LookupError(word)
    inner = []
    while len(inner) < many if many else words[0] != ".":
        inner.append(depth_taken(words))
    if not many:
        words.pop(0)
    return 1 + max(inner, default=0)


def is_expr(words):
    left = list(words)
    try:
        return depth_taken(left) <= 6 and not left
    except LookupError:
        return False


def is_form(words):
    """Point 16 for the words of a row that has some."""
    word, rest = words[0], words[1:]
    if word in ("else", "end"):
        return not rest
    if word in ("tell", "give", "if", "while"):
        return is_expr(rest)
    if word not in ("set", "kind", "def") or not rest or not is_name(rest.pop(0)):
        return False
    if word == "set":
        return is_expr(rest)
    if word == "def" and not (rest and is_kind(rest.pop(0))):
        return False
    names, kinds = rest[0::2], rest[1::2]
    right = all(is_kind(kind) and (word == "def" or not is_name(kind)) for kind in kinds)
    return right and all(map(is_name, names)) and len(names) == len(kinds) == len(set(names))


def read_fault(rows):
    """Point 17 for plain rows of words: (at, what), None where they can be read."""
    within = ""
    for at, words in enumerate(rows):
        if words and not is_form(words):
            return at, "form"
        behind = moved(within, words[0]) if words else within
        if behind is None:
            return at, "stray" if words[0] in ("end", "else") else "place"
        within = behind
    return (len(rows), "open") if within else None


def taken_expr(words):
    """An EXPR taken off the front of a list of words: (word, the NAME behind it or None, the EXPRs in it)."""
    word = words.pop(0)
    if word in ("do", "new"):
        name, inner = words.pop(0), []
        while words[0] != ".":
            inner.append(taken_expr(words))
        words.pop(0)
        return word, name, inner
    if word == "of":
        return word, words.pop(0), [taken_expr(words)]
    many = 2 if word in OPERATORS else 1 if word == "not" else 0
    return word, None, [taken_expr(words) for count in range(many)]


def all_exprs(e):
    """An EXPR and all within it."""
    return [e] + [found for inner in e[2] for found in all_exprs(inner)]


def pairs_behind(words):
    """NAME and KIND, two by two."""
    return list(zip(words[0::2], words[1::2]))


class Row:
    """A plain row that can be read, in a text that can be: its words, its body and what it holds."""

    def __init__(self, at, words, body):
        self.at = at
        self.words = words
        # The number of the def's row; None for the top.
        self.body = body
        self.word = words[0]
        self.name = words[1] if self.word in ("kind", "def", "set") else None
        self.pairs = pairs_behind(words[2:] if self.word == "kind" else words[3:] if self.word == "def" else [])
        self.e = None
        if self.word in ("set", "tell", "give", "if", "while"):
            self.e = taken_expr(list(words[2 if self.word == "set" else 1:]))


def rows_by_body(rows):
    """The rows of a plain text that have words and are no else, each with its body; ends among them, of their block's body."""
    found, opened, body = [], 0, None
    for at, words in enumerate(rows):
        if words and words[0] == "def":
            found.append(Row(at, words, None))
            opened, body = 1, at
        elif words and words[0] == "end":
            opened -= 1
            found.append(Row(at, words, body))
            body = body if opened else None
        elif words and words[0] != "else":
            found.append(Row(at, words, body))
            opened += words[0] in ("if", "while")
    return found


def due_names(words):
    """Point 22 for plain rows of words, each fault asked for by itself."""
    rows = rows_by_body(words)
    named = [row for row in rows if row.word in ("def", "kind")]
    faults = set()
    for row in named:
        if any(other.name == row.name and other.at < row.at for other in named):
            faults.add((row.at, "twice", row.name))
    kinds = {row.name: len(row.pairs) for row in reversed(named) if row.word == "kind"}
    defs = {row.name: len(row.pairs) for row in reversed(named) if row.word == "def"}
    params = {row.at: [name for name, kind in row.pairs] for row in rows if row.word == "def"}
    for row in rows:
        if row.word == "def":
            for kind in [row.words[2]] + [kind for name, kind in row.pairs]:
                if kind not in ("num", "truth") and kind not in kinds:
                    faults.add((row.at, "nokind", kind))
        for word, name, inner in all_exprs(row.e) if row.e else []:
            if word in ("do", "new"):
                there = defs if word == "do" else kinds
                if name not in there:
                    faults.add((row.at, "nofunc" if word == "do" else "nokind", name))
                elif there[name] != len(inner):
                    faults.add((row.at, "count", name))
            if is_name(word) and word not in params.get(row.body, []):
                above = [other for other in rows if other.word == "set" and other.body == row.body and other.at < row.at]
                if word not in [other.name for other in above]:
                    faults.add((row.at, "unset", word))
    return sorted(faults)


class KindsDue:
    """Points 24 and 25 for plain rows of words, each fault asked for by itself, each kind from the beginning."""

    def __init__(self, words):
        self.rows = rows_by_body(words)
        self.kinds = {row.name: dict(row.pairs) for row in self.rows if row.word == "kind"}
        self.defs = {row.name: (row.words[2], [kind for name, kind in row.pairs]) for row in self.rows if row.word == "def"}
        self.heads = {row.at: row for row in self.rows if row.word == "def"}

    def name_kind(self, name, body):
        params = dict(self.heads[body].pairs) if body is not None else {}
        if name in params:
            return params[name]
        first = min((row for row in self.rows if (row.word, row.name, row.body) == ("set", name, body)), key=lambda row: row.at)
        return self.kind(first.e, body)

    def kind(self, e, body):
        word, name, inner = e
        if word.isdigit() or word in ("+", "-", "*"):
            return "num"
        if word in ("yes", "no", "less", "same", "and", "or", "not"):
            return "truth"
        if word == "do":
            return self.defs[name][0]
        if word == "new":
            return name
        if word == "of":
            return self.kinds.get(self.kind(inner[0], body), {}).get(name)
        return self.name_kind(word, body)

    def unfit(self, e, body, due):
        return self.kind(e, body) not in (None, due)

    def expr_faults(self, e, body):
        word, name, inner = e
        dues = []
        if word in ("+", "-", "*", "less", "same"):
            dues = ["num", "num"]
        elif word in ("and", "or", "not"):
            dues = ["truth", "truth"]
        elif word == "do":
            dues = self.defs[name][1]
        elif word == "new":
            dues = list(self.kinds[name].values())
        elif word == "of":
            kind = self.kind(inner[0], body)
            return ["field"] if kind is not None and name not in self.kinds.get(kind, {}) else []
        return ["kind"] if any(self.unfit(one, body, due) for one, due in zip(inner, dues)) else []

    def row_faults(self, row):
        if row.word == "set":
            return ["kind"] if self.name_kind(row.name, row.body) is not None and self.unfit(
                row.e, row.body, self.name_kind(row.name, row.body)) else []
        if row.word == "give":
            return ["kind"] if self.unfit(row.e, row.body, self.heads[row.body].words[2]) else []
        if row.word == "tell":
            return ["tell"] if self.kind(row.e, row.body) in self.kinds else []
        return ["truth"] if self.unfit(row.e, row.body, "truth") else []

    def faults(self):
        found = set()
        for row in self.rows:
            if row.e is not None:
                found.update((row.at, what) for what in self.row_faults(row))
                found.update((row.at, what) for e in all_exprs(row.e) for what in self.expr_faults(e, row.body))
            if row.word == "def":
                behind = [other for other in self.rows if other.body == row.at]
                # The last of them is the def's own end: ahead of it a give row, else a row or end of another sort.
                if len(behind) < 2 or behind[-2].word != "give":
                    found.add((row.at, "give"))
        return sorted(found)


def due_kinds(words):
    return KindsDue(words).faults()


def due_faults(rows):
    """All faults (at, what, name) of plain rows of words: of reading, where there is none of names, else of kinds."""
    fault = read_fault(rows)
    if fault:
        return [fault + ("",)]
    return due_names(rows) or [(at, what, "") for at, what in due_kinds(rows)]


class Over(Exception):
    def __init__(self, outcome):
        self.outcome = outcome


BOUND = 10 ** 18
RECKONED = {
    "+": lambda one, two: one + two - BOUND if one + two >= BOUND else one + two,
    "-": lambda one, two: one - two if one >= two else one - two + BOUND,
    "*": lambda one, two: one * two - one * two // BOUND * BOUND,
    "less": lambda one, two: "yes" if one < two else "no",
    "same": lambda one, two: "yes" if one == two else "no",
    "and": lambda one, two: {"yesyes": "yes"}.get(one + two, "no"),
    "or": lambda one, two: {"nono": "no"}.get(one + two, "yes"),
    "not": lambda one: {"yes": "no", "no": "yes"}[one],
}


class Machine:
    """Points 29 to 32 for the rows of a plain text without faults, by their words, with leaps from row to row."""

    def __init__(self, words, most):
        self.words, self.most, self.told, self.log = words, most, [], []
        self.defs, self.kinds, self.leaps, opened = {}, {}, {}, []
        for at, row in enumerate(words):
            word = row[0] if row else ""
            if word in ("def", "if", "while"):
                opened.append([at])
            elif word == "else":
                opened[-1].append(at)
            elif word == "end":
                begin = opened.pop()
                self.leaps[at] = begin[0] if words[begin[0]][0] == "while" else at + 1
                # From the first row, where its EXPR is no or it is a def's, and from an else that is come to.
                for place, other in zip(begin, begin[1:] + [at]):
                    self.leaps[place] = other + 1
            if word == "def":
                self.defs.setdefault(row[1], at)
            elif word == "kind":
                self.kinds.setdefault(row[1], row[2::2])

    def answer(self):
        try:
            self.go(0, {}, 0)
        except Over as end:
            return end.outcome, tuple(self.told), self.log
        return "done", tuple(self.told), self.log

    def go(self, at, names, depth):
        while at < len(self.words):
            row = self.words[at]
            if not row or row[0] == "kind":
                at += 1
            elif row[0] in ("def", "else", "end"):
                at = self.leaps[at]
            else:
                if len(self.log) == self.most:
                    raise Over("long")
                self.log.append(at)
                value = self.value(taken_expr(list(row[2 if row[0] == "set" else 1:])), names, depth)
                if row[0] == "give":
                    return value
                if row[0] == "set":
                    names[row[1]] = value
                elif row[0] == "tell":
                    self.told.append(value)
                at = self.leaps[at] if row[0] in ("if", "while") and value == "no" else at + 1

    def value(self, e, names, depth):
        word, name, inner = e
        values = [self.value(one, names, depth) for one in inner]
        if word in RECKONED:
            return RECKONED[word](*values)
        if word == "do":
            if depth == 6:
                raise Over("deep")
            at = self.defs[name]
            return self.go(at + 1, dict(zip(self.words[at][3::2], values)), depth + 1)
        if word == "new":
            return name, dict(zip(self.kinds[name], values))
        if word == "of":
            return values[0][1][name]
        if word.isdigit() or word in ("yes", "no"):
            return int(word) if word.isdigit() else word
        if word not in names:
            raise Over("unset")
        return names[word]


def names_expr(chance, deep=3):
    word = chance.choice(("1", "x", "x", "y", "yes") if deep == 1 else ("1", "x", "x", "y", "z", "do", "do", "new", "new", "of", "+", "and", "not"))
    if word in ("do", "new"):
        inner = [names_expr(chance, deep - 1) for count in range(chance.choice((0, 1, 1, 2)))]
        return [word, chance.choice("fgk" if word == "do" else "kpf")] + sum(inner, []) + ["."]
    if word == "of":
        return [word, chance.choice("uvx")] + names_expr(chance, deep - 1)
    if word in ("+", "and"):
        return [word] + names_expr(chance, deep - 1) + names_expr(chance, deep - 1)
    return ["not"] + names_expr(chance, deep - 1) if word == "not" else [word]


def names_row(chance, word):
    if word == "kind":
        return [word, chance.choice("kkpf")] + chance.choice(("", "u num", "v truth", "u num v truth")).split()
    if word == "def":
        params = chance.choice(("", "x num", "x k", "y p x num", "z truth", "y f"))
        return [word, chance.choice("ffgk"), chance.choice(("num", "truth", "k", "k", "p"))] + params.split()
    if word == "set":
        return [word, chance.choice("xyz")] + names_expr(chance)
    if word in ("tell", "give", "if", "while"):
        return [word] + names_expr(chance)
    return [word] if word else []


def kinds_expr(chance, want, deep=4):
    """An EXPR that is, with kinds and defs as they mostly are, mostly of the kind wanted."""
    if chance.random() < 0.1:
        want = chance.choice(("num", "truth", "k", "p", "q", None))
    forms = {"num": ["1", "x"], "truth": ["yes", "y"], "k": ["z"], "p": ["w"], "q": ["new q ."], None: ["of v w"]}[want]
    if deep > 1:
        forms = forms + {
            "num": ["+ num num", "- num num", "* num num", "do f num .", "of u k"],
            "truth": ["less num num", "same num num", "and truth truth", "or truth truth", "not truth", "do g k truth .",
                      "of v k", "of u p"],
            "k": ["do h .", "new k num truth ."],
            "p": ["new p truth ."],
            "q": [],
            None: ["of v p", "of u q", "of u num", "of v truth", "of w k"],
        }[want]
    words = []
    for place, word in enumerate(chance.choice(forms).split()):
        # Small words at the place of an EXPR stand for one.
        if place > 0 and word in ("num", "truth", "k", "p", "q") and not (place == 1 and words[0] in ("new", "do")):
            words += kinds_expr(chance, word, deep - 1)
        else:
            words.append(word)
    return words


def kinds_row(chance, word):
    if word == "set":
        name = chance.choice("xyzw")
        return [word, name] + kinds_expr(chance, {"x": "num", "y": "truth", "z": "k", "w": "p"}[name])
    if word in ("if", "while"):
        return [word] + kinds_expr(chance, "truth")
    if word in ("tell", "give"):
        return [word] + kinds_expr(chance, chance.choice(("num", "truth", "num", "truth", "k")))
    return [word] if word else []


def kind_or(chance, usual, others=("num", "truth", "k", "p", "q")):
    return usual if chance.random() < 0.75 else chance.choice(others)


def cut_by_cell(chance, n, tell):
    """A row with words of its own in each cell."""
    return row_text([(mask, tell()) for mask in some_cells(chance, n)], n, chance)


def begin_of_body(chance, n, params):
    """Rows that set all names that are no params, mostly in some settings within a block."""
    rows = []
    for name, want in (("x", "num"), ("y", "truth"), ("z", "k"), ("w", "p")):
        usual = {"num": "1", "truth": "yes", "k": "new k 1 yes .", "p": "new p yes ."}
        if name not in params:
            part = some_cells(chance, n)[0]
            blocks = [(part, ["if", "yes"]), (full(n) ^ part, [])] if chance.random() < 0.3 else []
            # What is set first reads no name: so it is set in every setting, whatever kind comes of it.
            firsts = lambda: ["set", name] + chance.choice([usual[want]] * 5 + ["2", "no", "of u 1", "new q .", "do f 1 ."]).split()
            row = [cut_by_cell(chance, n, firsts)]
            if blocks:
                ends = [(mask, ["end"] if words else []) for mask, words in blocks]
                row = [row_text([cell for cell in blocks if cell[0]], n, chance)] + row + [
                    row_text([cell for cell in ends if cell[0]], n, chance)]
            rows += row
    return rows


def kinds_text(chance, n):
    """A text with just a few settings that have faults of names."""
    def kind_row(name, fields):
        words = ["kind", name]
        for field, kind in fields:
            words += [field, kind_or(chance, kind, ("num", "truth"))]
        if chance.random() < 0.1 and fields:
            words[2] = "w"
        return words if chance.random() > 0.01 else []

    def def_row(name, kind, params):
        return ["def", name, kind_or(chance, kind)] + [
            word for param, usual in params for word in (param, kind_or(chance, usual))]

    parts = [[cut_by_cell(chance, n, lambda one=name, two=fields: kind_row(one, two))] for name, fields in (
        ("k", [("u", "num"), ("v", "truth")]), ("p", [("u", "truth")]), ("q", []))]
    body = "set set tell if if while else end end".split() + [""]
    for name, kind, params in (("f", "num", [("x", "num")]), ("g", "truth", [("z", "k"), ("y", "truth")]), ("h", "k", [])):
        rows = [cut_by_cell(chance, n, lambda: def_row(name, kind, params))]
        rows += begin_of_body(chance, n, [param for param, usual in params])
        rows += shared_rows(chance, n, chance.randrange(4), kinds_row, 0, body + ["give"], "d")
        last = lambda: ["give"] + kinds_expr(chance, kind) if chance.random() < 0.8 else kinds_row(chance, "tell")
        rows += [cut_by_cell(chance, n, last)] if chance.random() < 0.8 else []
        parts.append(rows + ["end"])
    parts.append(begin_of_body(chance, n, []) + shared_rows(chance, n, chance.randrange(1, 10), kinds_row, 0, body, ""))
    chance.shuffle(parts)
    return "\n".join(row for part in parts for row in part)


EXPRS = {
    "num": "0/1/2/3/x/x/y/999999999999999999".split("/"),
    "truth": "yes/no/t".split("/"),
    "k": ["r"],
    "p": ["q"],
}
DEEPER = {
    "num": "+ num num/- num num/* num num/of u k/of v k/of v p".split("/"),
    "truth": "less num num/same num num/and truth truth/or truth truth/not truth/of u p".split("/"),
    "k": ["new k num num ."],
    "p": ["new p truth num ."],
}
DOING = {"num": "do f num .", "truth": "do g truth num .", "k": "do h num k .", "p": "new p do g truth num . do f num . ."}
DEFS = (("f", "num", (("x", "num"),)), ("g", "truth", (("t", "truth"), ("x", "num"))), ("h", "k", (("y", "num"), ("r", "k"))))


class Writer:
    """Writes a text over n switches that can be run in most settings; where wishes part them, rows, blocks and words."""

    def __init__(self, chance, n):
        self.chance, self.n = chance, n
        # The settings in which rows have words from here on.
        self.scope = full(n)
        self.rows = []
        # How likely an EXPR is to be a do where it may be.
        self.doing = 0

    def put(self, cells):
        cells = [(mask & self.scope, words) for mask, words in cells]
        cells.append((full(self.n) - sum(mask for mask, words in cells), []))
        self.rows.append(row_text([cell for cell in cells if cell[0]], self.n, self.chance))

    def row(self, tell):
        """A row with words of its own in each cell."""
        self.put([(mask, tell()) for mask in some_cells(self.chance, self.n)])

    def within(self, scope, write):
        before = self.scope
        self.scope &= scope
        write()
        self.scope = before

    def some_scope(self, often):
        return self.chance.choice(some_cells(self.chance, self.n)) if self.chance.random() < often else full(self.n)

    def expr(self, want, deep=3):
        forms = EXPRS[want] if deep == 1 or self.chance.random() < 0.3 else DEEPER[want]
        form = DOING[want] if deep > 1 and self.chance.random() < self.doing else self.chance.choice(forms)
        words = []
        for place, word in enumerate(form.split()):
            if word in EXPRS and not (place == 1 and words[0] == "new"):
                words += self.expr(word, deep - 1)
            else:
                words.append(word)
        return words

    def simple(self, giving):
        """A row that begins no block; giving is the kind that a def gives."""
        word = self.chance.choice(("set", "set", "set", "tell", "tell", "give" if giving else "tell", ""))
        if word == "set":
            name, want = self.chance.choice((("x", "num"), ("y", "num"), ("t", "truth"), ("r", "k"), ("q", "p")))
            return [word, name] + self.expr(want)
        if word == "tell":
            return [word] + self.expr(self.chance.choice(("num", "truth")))
        return [word] + self.expr(giving) if word else []

    def begin_names(self, params):
        """Sets all names that are no params, some of them in a branch alone."""
        for name, words in (("x", "1"), ("y", "2"), ("t", "no"), ("r", "new k 3 4 ."), ("q", "new p yes 5 .")):
            if name not in params:
                branch = self.chance.random() < 0.1
                if branch:
                    self.row(lambda: ["if", self.chance.choice(("yes", "yes", "no"))])
                self.row(lambda: ["set", name] + words.split())
                if branch:
                    self.put([(full(self.n), ["end"])])

    def statements(self, many, blocks, giving):
        for count in range(many):
            if blocks == 0 or self.chance.random() < 0.55:
                self.row(lambda: self.simple(giving))
            elif self.chance.random() < 0.5:
                self.branch(blocks, giving)
            else:
                self.loop(blocks, giving)

    def inner(self, blocks, giving):
        scope = self.some_scope(0.2)
        self.within(scope, lambda: self.statements(self.chance.randrange(3), blocks - 1, giving))

    def branch(self, blocks, giving):
        scope = self.some_scope(0.3)
        self.within(scope, lambda: self.row(lambda: ["if"] + self.expr("truth")))
        self.inner(blocks, giving)
        if self.chance.random() < 0.6:
            self.within(scope & self.some_scope(0.3), lambda: self.put([(full(self.n), ["else"])]))
            self.inner(blocks, giving)
        self.within(scope, lambda: self.put([(full(self.n), ["end"])]))

    def loop(self, blocks, giving):
        """A while that counts, mostly; in some settings it is an if, or is not there at all."""
        name = "abcd"[blocks]
        scope = self.some_scope(0.3)
        counted = lambda: ["while", "less", name, self.chance.choice("012235")]
        self.put([(full(self.n), ["set", name, "0"])])
        self.within(scope, lambda: self.row(lambda: counted() if self.chance.random() < 0.7 else [
            self.chance.choice(("if", "while"))] + self.expr("truth")))
        self.inner(blocks, giving)
        self.put([(full(self.n), ["set", name, "+", name, "1"])])
        self.within(scope, lambda: self.put([(full(self.n), ["end"])]))

    def one_def(self, name, kind, params):
        # Defs that do one another come to be deep soon.
        self.doing = self.chance.choice((0, 0, 0.03, 0.2))
        self.put([(full(self.n), ["def", name, kind] + [word for pair in params for word in pair])])
        self.begin_names([param for param, usual in params])
        if name == "f" and self.chance.random() < 0.7:
            self.put([(full(self.n), "if less x 7".split())])
            self.row(lambda: ["give"] + self.chance.choice((["0"], "+ x do f - x 1 .".split(), "do f + x 1 .".split(), ["x"])))
            self.put([(full(self.n), ["end"])])
        self.statements(self.chance.randrange(3), 2, kind)
        self.row(lambda: ["give"] + self.expr(kind))
        self.put([(full(self.n), ["end"])])

    def taken(self):
        rows, self.rows = self.rows, []
        return rows


WRONG = (
    "end", "tell nothing", "tell + 1 yes", "if 1/end", "kind k w num", "kind p u num v truth", "def f num x num/give 7/end",
    "def g num/give 8/end", "tell do nobody 1 .", "set n new k 1 .", "tell of u 1",
)


def run_text(chance, n, wrong=0):
    """A text over n switches that can be run in all settings, but for those that have so many wrong blocks."""
    writer = Writer(chance, n)
    blocks = []
    for count in range(wrong):
        scope = writer.some_scope(1)
        if scope != full(n):
            for row in chance.choice(WRONG).split("/"):
                writer.within(scope, lambda: writer.put([(full(n), row.split())]))
            blocks.append(writer.taken())
    for name, kind, params in DEFS:
        # In some settings a def stands in one place, in the others in another one.
        part = writer.some_scope(0.2)
        for scope in (part, full(n) ^ part):
            if scope:
                writer.within(scope, lambda: writer.one_def(name, kind, params))
                blocks.append(writer.taken())
    writer.row(lambda: chance.choice(("kind k u num v num", "kind k v num u num")).split())
    writer.put([(full(n), "kind p u truth v num".split())])
    blocks += [[row] for row in writer.taken()]
    writer.doing = chance.choice((0, 0.1, 0.3))
    main = []
    writer.begin_names([])
    main.append(writer.taken())
    for count in range(chance.randrange(1, 4)):
        writer.statements(chance.randrange(1, 4), 3, None)
        main.append(writer.taken())
    chance.shuffle(blocks)
    places = sorted(chance.randrange(len(blocks) + 1) for block in main)
    for place, block in reversed(list(zip(places, main))):
        blocks.insert(place, block)
    rows = [row for block in blocks for row in block]
    if len(rows) > 60 or any(len(row.split()) > 100 for row in rows):
        return run_text(chance, n, wrong)
    return "\n".join(rows)
