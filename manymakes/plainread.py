"""The plain reader: rows of words, without wishes, read into a plain tree."""

from manymakes.errors import NoForm
from manymakes.phrases import read_row

MOST_BLOCKS = 4


class Block:
    """A block that is begun and not ended."""

    def __init__(self, word, body, other):
        self.word = word
        # The list that takes the statements which come.
        self.body = body
        # The list that takes those behind an else; None where no else may come.
        self.other = other


def read_plain(rows):
    """The plain tree of a list of lists of words; NoForm where it can't be read."""
    tree = []
    blocks = []
    for at, words in enumerate(rows):
        head = read_row(words, at)
        if head is not None:
            check_place(head[0], at, blocks)
            put_in(head, tree, blocks)
    if len(blocks) > 0:
        raise NoForm(len(rows), "open")
    return tree


def check_place(word, at, blocks):
    """NoForm where a row that begins with this word may not stand within these blocks."""
    if is_misplaced(word, blocks):
        raise NoForm(at, "place")
    if is_stray(word, blocks):
        raise NoForm(at, "stray")


def is_misplaced(word, blocks):
    """Whether a row that begins a statement may not begin it here."""
    if word in ("kind", "def"):
        return len(blocks) > 0
    if word in ("if", "while"):
        return len(blocks) >= MOST_BLOCKS
    # A def stands in no block, so only the outermost block can be one.
    return word == "give" and (len(blocks) == 0 or blocks[0].word != "def")


def is_stray(word, blocks):
    """Whether an end or else has no block that it could end or part."""
    if word == "else":
        return len(blocks) == 0 or blocks[-1].other is None
    return word == "end" and len(blocks) == 0


def put_in(head, tree, blocks):
    """Puts what a row says where it belongs: into the innermost block, or into the tree where there is none."""
    word = head[0]
    if word == "end":
        blocks.pop()
    elif word == "else":
        block = blocks[-1]
        block.body = block.other
        block.other = None
    else:
        body = blocks[-1].body if len(blocks) > 0 else tree
        body.append(begun(head, blocks))


def begun(head, blocks):
    """The statement that a row begins; where that is a block, it is the innermost one from here on."""
    word = head[0]
    if word == "if":
        then = []
        other = []
        blocks.append(Block(word, then, other))
        return head + (then, other)
    if word in ("def", "while"):
        body = []
        blocks.append(Block(word, body, None))
        return head + (body,)
    return head
