"""Point 20, and of point 2 that what is handed in stays and what is told is the asker's own."""

import copy
import random
import unittest

from manymakes.cutting import cut_tree, kept_tree
from programs import full, held, mask_of, some_cells, some_mask

X, ONE, TWO = ("name", "x"), ("num", 1), ("num", 2)

# Over two switches: kind and def, an if with both its lists, a while within it, rows of several tuples.
TREE = [
    (15, ("kind", 0, "k", (("u", "num"),))),
    (5, ("def", 1, "f", "num", (("x", "num"),), [(1, ("tell", 2, X)), (4, ("tell", 2, ONE)), (5, ("give", 3, X))])),
    (10, ("def", 1, "f", "k", (), [(10, ("give", 3, X))])),
    (3, ("if", 5, X,
         [(1, ("tell", 6, ONE)), (2, ("tell", 6, TWO)), (2, ("while", 7, X, [(2, ("set", 8, "x", ONE))]))],
         [(3, ("tell", 10, X))])),
    (4, ("while", 5, X, [])),
    (8, ("set", 5, "x", TWO)),
    (14, ("tell", 12, X)),
]


def lists_of(tree):
    """The list and all lists in its statements, of a plain or a shared tree."""
    found = [tree]
    for one in tree:
        statement = one[1] if isinstance(one[0], int) else one
        for part in statement:
            if isinstance(part, list):
                found += lists_of(part)
    return found


def some_tree(chance, n, mask, at=0, deep=0):
    """A tree of shared form over the settings of the mask, rows from at on; and the row behind."""
    tree = []
    for count in range(chance.randrange(4)):
        row, longest = [], at + 1
        for part in some_cells(chance, n):
            here = part & mask
            if here and chance.random() < 0.8:
                statement, behind = some_statement(chance, n, here, at, deep)
                longest = max(longest, behind)
                row.append((here, statement))
        tree += sorted(row, key=lambda pair: held(pair[0])[0])
        at = longest
    return tree, at


def some_statement(chance, n, here, at, deep):
    word = chance.choice(("set", "tell", "give", "kind") if deep == 3 else ("set", "tell", "def", "if", "while", "if"))
    e = chance.choice((X, ONE, ("do", "f", (ONE, X)), ("+", X, ("not", X))))
    if word == "kind":
        return (word, at, "k", (("u", "num"), ("v", "truth"))), at + 1
    if word == "set":
        return (word, at, "x", e), at + 1
    if word in ("tell", "give"):
        return (word, at, e), at + 1
    body, behind = some_tree(chance, n, here, at + 1, deep + 1)
    if word == "if":
        other, behind = some_tree(chance, n, here, behind + 1, deep + 1)
        return (word, at, e, body, other), behind + 1
    head = (word, at, "f", "num", (("x", "k"),)) if word == "def" else (word, at, e)
    return head + (body,), behind + 1


def due_cut(tree, s):
    found = []
    for mask, one in tree:
        if s in held(mask):
            if one[0] == "if":
                one = one[:3] + (due_cut(one[3], s), due_cut(one[4], s))
            elif one[0] == "def":
                one = one[:5] + (due_cut(one[5], s),)
            elif one[0] == "while":
                one = one[:3] + (due_cut(one[3], s),)
            found.append(one)
    return found


def due_kept(tree, mask):
    found = []
    for there, one in tree:
        left = [s for s in held(there) if s in held(mask)]
        if left:
            if one[0] == "if":
                one = one[:3] + (due_kept(one[3], mask), due_kept(one[4], mask))
            elif one[0] == "def":
                one = one[:5] + (due_kept(one[5], mask),)
            elif one[0] == "while":
                one = one[:3] + (due_kept(one[3], mask),)
            found.append((one[1], left[0], mask_of(left), one))
    found.sort(key=lambda row: row[:2])
    return [row[2:] for row in found]


class Cut(unittest.TestCase):
    def test_each_setting(self):
        kind, last = ("kind", 0, "k", (("u", "num"),)), ("tell", 12, X)
        one = ("def", 1, "f", "num", (("x", "num"),))
        self.assertEqual(cut_tree(TREE, 0), [
            kind, one + ([("tell", 2, X), ("give", 3, X)],), ("if", 5, X, [("tell", 6, ONE)], [("tell", 10, X)])])
        self.assertEqual(cut_tree(TREE, 1), [
            kind, ("def", 1, "f", "k", (), [("give", 3, X)]),
            ("if", 5, X, [("tell", 6, TWO), ("while", 7, X, [("set", 8, "x", ONE)])], [("tell", 10, X)]), last])
        self.assertEqual(cut_tree(TREE, 2), [kind, one + ([("tell", 2, ONE), ("give", 3, X)],), ("while", 5, X, []), last])
        self.assertEqual(cut_tree(TREE, 3), [kind, ("def", 1, "f", "k", (), [("give", 3, X)]), ("set", 5, "x", TWO), last])

    def test_without_statements(self):
        for s in range(4):
            self.assertEqual(cut_tree([], s), [])
        self.assertEqual(cut_tree([(2, ("tell", 0, X))], 0), [])
        self.assertEqual(cut_tree([(1, ("tell", 0, X))], 5), [])

    def test_some_trees(self):
        chance = random.Random(20)
        for count in range(600):
            n = chance.randrange(4)
            tree, behind = some_tree(chance, n, full(n))
            before = copy.deepcopy(tree)
            for s in range(2 ** n):
                self.assertEqual(cut_tree(tree, s), due_cut(tree, s))
            self.assertEqual(tree, before)

    def test_many_switches(self):
        tree = [(2 ** 1000 + 2 ** 3, ("while", 0, X, [(2 ** 1000, ("tell", 1, ONE)), (2 ** 3, ("tell", 1, TWO))]))]
        self.assertEqual(cut_tree(tree, 1000), [("while", 0, X, [("tell", 1, ONE)])])
        self.assertEqual(cut_tree(tree, 3), [("while", 0, X, [("tell", 1, TWO)])])
        self.assertEqual(cut_tree(tree, 999), [])


class Kept(unittest.TestCase):
    def test_by_hand(self):
        self.assertEqual(kept_tree(TREE, 12), [
            (12, ("kind", 0, "k", (("u", "num"),))),
            (4, ("def", 1, "f", "num", (("x", "num"),), [(4, ("tell", 2, ONE)), (4, ("give", 3, X))])),
            (8, ("def", 1, "f", "k", (), [(8, ("give", 3, X))])),
            (4, ("while", 5, X, [])),
            (8, ("set", 5, "x", TWO)),
            (12, ("tell", 12, X)),
        ])
        self.assertEqual(kept_tree(TREE, 1), [
            (1, ("kind", 0, "k", (("u", "num"),))),
            (1, ("def", 1, "f", "num", (("x", "num"),), [(1, ("tell", 2, X)), (1, ("give", 3, X))])),
            (1, ("if", 5, X, [(1, ("tell", 6, ONE))], [(1, ("tell", 10, X))])),
        ])

    def test_all_and_none(self):
        self.assertEqual(kept_tree(TREE, 15), TREE)
        self.assertEqual(kept_tree(TREE, 0), [])
        self.assertEqual(kept_tree([], 15), [])
        self.assertEqual(kept_tree(TREE, 240), [])
        self.assertEqual(kept_tree(TREE, 255), TREE)

    def test_the_order_of_the_least_settings_that_are_left(self):
        one, other, third = ("tell", 0, X), ("tell", 0, ONE), ("tell", 0, TWO)
        tree = [(0b001001, one), (0b010010, other), (0b100100, third), (0b111111, ("tell", 1, X))]
        self.assertEqual(kept_tree(tree, 0b111000),
                         [(0b001000, one), (0b010000, other), (0b100000, third), (0b111000, ("tell", 1, X))])
        self.assertEqual(kept_tree(tree, 0b111110),
                         [(0b010010, other), (0b100100, third), (0b001000, one), (0b111110, ("tell", 1, X))])
        self.assertEqual(kept_tree(tree, 0b101100), [(0b100100, third), (0b001000, one), (0b101100, ("tell", 1, X))])
        self.assertEqual(kept_tree(tree, 0b110001), [(0b000001, one), (0b010000, other), (0b100000, third),
                                                     (0b110001, ("tell", 1, X))])

    def test_the_order_in_blocks(self):
        inner = [(5, ("tell", 1, X)), (10, ("tell", 1, ONE)), (15, ("tell", 2, X))]
        due = [(10, ("tell", 1, ONE)), (4, ("tell", 1, X)), (14, ("tell", 2, X))]
        for head in (("while", 0, X), ("def", 0, "f", "num", ())):
            self.assertEqual(kept_tree([(15, head + (inner,))], 14), [(14, head + (due,))])
            outer = ("while", 0, X, [(15, head + (inner,))])
            self.assertEqual(kept_tree([(15, outer)], 14), [(14, ("while", 0, X, [(14, head + (due,))]))])
        self.assertEqual(kept_tree([(15, ("if", 0, X, inner, []))], 14), [(14, ("if", 0, X, due, []))])
        self.assertEqual(kept_tree([(15, ("if", 0, X, [], inner))], 14), [(14, ("if", 0, X, [], due))])

    def test_a_row_far_down_stays_behind_one_above(self):
        tree = [(4, ("tell", 9, X)), (3, ("tell", 10, X))]
        self.assertEqual(kept_tree(tree, 7), tree)
        self.assertEqual(kept_tree(tree, 6), [(4, ("tell", 9, X)), (2, ("tell", 10, X))])

    def test_what_comes_to_nothing_in_a_block(self):
        tree = [(3, ("if", 0, X, [(1, ("tell", 1, ONE))], [(2, ("while", 3, X, [(2, ("tell", 4, X))]))]))]
        self.assertEqual(kept_tree(tree, 1), [(1, ("if", 0, X, [(1, ("tell", 1, ONE))], []))])
        self.assertEqual(kept_tree(tree, 2), [(2, ("if", 0, X, [], [(2, ("while", 3, X, [(2, ("tell", 4, X))]))]))])

    def test_some_trees(self):
        chance = random.Random(21)
        turned = 0
        for count in range(1500):
            n = chance.randrange(4)
            tree, behind = some_tree(chance, n, full(n))
            before = copy.deepcopy(tree)
            mask = some_mask(chance, n)
            told = kept_tree(tree, mask)
            self.assertEqual(told, due_kept(tree, mask))
            turned += [one[:3] for there, one in told] != [one[:3] for there, one in tree if there & mask]
            for s in range(2 ** n):
                self.assertEqual(cut_tree(told, s), cut_tree(tree, s) if s in held(mask) else [])
            again = chance.randrange(full(n) + 1)
            self.assertEqual(kept_tree(told, again), kept_tree(tree, mask & again))
            self.assertEqual(tree, before)
        self.assertGreater(turned, 10)


class Own(unittest.TestCase):
    def test_kinds(self):
        for told in (cut_tree(TREE, 1), kept_tree(TREE, 3)):
            for one in lists_of(told):
                self.assertIs(one.__class__, list)
                for part in one:
                    self.assertIs(part.__class__, tuple)

    def test_a_list_told_and_changed_changes_nothing(self):
        for tell in (lambda tree: cut_tree(tree, 1), lambda tree: kept_tree(tree, 15), lambda tree: kept_tree(tree, 2)):
            tree = copy.deepcopy(TREE)
            told = tell(tree)
            for one in lists_of(told):
                one.clear()
            self.assertEqual(tree, TREE)
            self.assertEqual(tell(tree), tell(TREE))

    def test_what_is_done_to_the_tree_behind_the_call(self):
        for tell in (lambda tree: cut_tree(tree, 1), lambda tree: kept_tree(tree, 15), lambda tree: kept_tree(tree, 2)):
            tree = copy.deepcopy(TREE)
            told = tell(tree)
            for one in lists_of(tree):
                one.clear()
            self.assertEqual(told, tell(TREE))

    def test_each_list_is_its_own(self):
        for told in (cut_tree(TREE, 1), kept_tree(TREE, 15)):
            lists = lists_of(told) + lists_of(TREE)
            self.assertEqual(len({id(one) for one in lists}), len(lists))


if __name__ == "__main__":
    unittest.main()
