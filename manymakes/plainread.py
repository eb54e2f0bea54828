"""The plain reader: rows of words, without wishes, read into a plain tree."""

from manymakes.errors import NoForm
from manymakes.phrases import read_row

MOST_BLOCKS = 4


class Block:
    """A block that is begun and not ended."""

    def __init__(self, word, body, other):
        # The word of its row; else, where it is parted.
        self.word = word
        # The list that takes the statements which come.
        self.body = body
        # The list that takes those behind an else; None where none can come.
        self.other = other


def read_plain(rows):
    """The plain tree of a list of lists of words; NoForm where it can't be read."""
    tree = []
    blocks = []
    for at, words in enumerate(rows):
        head = read_row(words, at)
        if head is not None:
            what = place_fault(head[0], [block.word for block in blocks])
            if what is not None:
                raise NoForm(at, what)
            put_in(head, tree, blocks)
    if len(blocks) > 0:
        raise NoForm(len(rows), "open")
    return tree


def place_fault(word, within):
    """The fault of a row that begins with this word within blocks, told by their words; None where it may be there."""
    if is_misplaced(word, within):
        return "place"
    if is_stray(word, within):
        return "stray"
    return None


def is_misplaced(word, within):
    """Whether a row that begins a statement may not begin it here."""
    if word in ("kind", "def"):
        return len(within) > 0
    if word in ("if", "while"):
        return len(within) >= MOST_BLOCKS
    return word == "give" and "def" not in within


def is_stray(word, within):
    """Whether an end or else has no block that it could end or part."""
    if word == "else":
        return len(within) == 0 or within[-1] != "if"
    return word == "end" and len(within) == 0


def put_in(head, tree, blocks):
    """Puts what a row says where it belongs: into the innermost block, or into the tree where there is none."""
    word = head[0]
    if word == "end":
        blocks.pop()
    elif word == "else":
        block = blocks[-1]
        block.word = word
        block.body = block.other
    else:
        body = blocks[-1].body if len(blocks) > 0 else tree
        body.append(begun(head, blocks))


def begun(head, blocks):
    """The statement that a row begins; where that is a block, it is the innermost one from here on."""
    word = head[0]
    if word == "if":
        then = []
        other = []
        blocks.append(Block(word, then, other))
        return head + (then, other)
    if word in ("def", "while"):
        body = []
        blocks.append(Block(word, body, None))
        return head + (body,)
    return head
