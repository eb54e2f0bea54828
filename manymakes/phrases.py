"""The rows of the language one by one: what the words of a row say by themselves."""

from manymakes.errors import NoForm

LANGUAGE_WORDS = (
    "kind", "def", "set", "tell", "give", "if", "else", "while", "end", "num", "truth", "yes", "no",
    "less", "same", "and", "or", "not", "do", "new", "of", "+", "-", "*", ".",
)
OPERATORS = ("+", "-", "*", "less", "same", "and", "or")
PLAIN_KINDS = ("num", "truth")
SMALL_LETTERS = "abcdefghijklmnopqrstuvwxyz"
FIGURES = "0123456789"
LONGEST_NAME = 8
LONGEST_NUMBER = 18
DEEPEST_EXPR = 6


def made_of(word, signs, most):
    """Whether a word has at most so many signs, one or more, and each is one of these."""
    return word != "" and len(word) <= most and all([sign in signs for sign in word])


def is_name(word):
    """Whether a word is a NAME."""
    return made_of(word, SMALL_LETTERS, LONGEST_NAME) and word not in LANGUAGE_WORDS


def is_number(word):
    """Whether a word is a NUMBER."""
    return word == "0" or (made_of(word, FIGURES, LONGEST_NUMBER) and word[0] != "0")


class Phrase:
    """The words of row number at, taken from the front; where they don't go on as is due, NoForm."""

    def __init__(self, words, at):
        self.words = words
        self.at = at
        self.place = 0

    def ended(self):
        """Whether all words are taken."""
        return self.place == len(self.words)

    def take(self):
        """The word that comes, whatever it is."""
        if self.ended():
            raise NoForm(self.at, "form")
        word = self.words[self.place]
        self.place = self.place + 1
        return word

    def take_name(self):
        """The NAME that comes."""
        word = self.take()
        if not is_name(word):
            raise NoForm(self.at, "form")
        return word

    def take_plain_kind(self):
        """The num or truth that comes."""
        word = self.take()
        if word not in PLAIN_KINDS:
            raise NoForm(self.at, "form")
        return word

    def take_kind(self):
        """The KIND that comes."""
        word = self.take()
        if word not in PLAIN_KINDS and not is_name(word):
            raise NoForm(self.at, "form")
        return word

    def take_fields(self):
        """All words left, as the fields of a kind."""
        pairs = []
        while not self.ended():
            name = self.take_name()
            pairs.append((name, self.take_plain_kind()))
        return self.unlike_names(pairs)

    def take_params(self):
        """All words left, as the parameters of a def."""
        pairs = []
        while not self.ended():
            name = self.take_name()
            pairs.append((name, self.take_kind()))
        return self.unlike_names(pairs)

    def unlike_names(self, pairs):
        """The pairs as a tuple, where no two have one name."""
        if len(set([name for name, kind in pairs])) < len(pairs):
            raise NoForm(self.at, "form")
        return tuple(pairs)

    def take_expr(self, deep):
        """The EXPR that comes, nested at most so deep."""
        # Refused on the way in: what is nested too deep is of no form, whatever comes behind.
        if deep == 0:
            raise NoForm(self.at, "form")
        word = self.take()
        if is_number(word):
            return ("num", int(word))
        if word in ("yes", "no"):
            return ("truth", word)
        if is_name(word):
            return ("name", word)
        if word == "not":
            return (word, self.take_expr(deep - 1))
        if word in OPERATORS:
            left = self.take_expr(deep - 1)
            return (word, left, self.take_expr(deep - 1))
        return self.take_named(word, deep)

    def take_named(self, word, deep):
        """What comes behind a do, new or of, which begin with a NAME, as an EXPR."""
        if word not in ("do", "new", "of"):
            raise NoForm(self.at, "form")
        name = self.take_name()
        if word == "of":
            return (word, name, self.take_expr(deep - 1))
        return (word, name, self.take_exprs(deep - 1))

    def take_exprs(self, deep):
        """The EXPRs that come, each nested at most so deep, up to the point that ends them."""
        found = []
        while self.ended() or self.words[self.place] != ".":
            found.append(self.take_expr(deep))
        self.take()
        return tuple(found)


def read_row(words, at):
    """What row number at says: a tuple of its first word, its number, and what it holds; None without words."""
    if len(words) == 0:
        return None
    phrase = Phrase(words, at)
    head = read_head(phrase, phrase.take())
    if not phrase.ended():
        raise NoForm(at, "form")
    return head


def read_head(phrase, word):
    """What a row that begins with this word says."""
    at = phrase.at
    if word in ("else", "end"):
        return (word, at)
    if word in ("tell", "give", "if", "while"):
        return (word, at, phrase.take_expr(DEEPEST_EXPR))
    if word not in ("kind", "def", "set"):
        raise NoForm(at, "form")
    name = phrase.take_name()
    if word == "kind":
        return (word, at, name, phrase.take_fields())
    if word == "set":
        return (word, at, name, phrase.take_expr(DEEPEST_EXPR))
    kind = phrase.take_kind()
    return (word, at, name, kind, phrase.take_params())
