"""Points 21 to 23 and LOOKING of point 3, and of point 2 what holds for the faults of names."""

import copy
import itertools
import random
import unittest

from manymakes.cutting import cut_tree
from manymakes.names import plain_names, shared_names
from manymakes.plainread import read_plain
from manymakes.sharedread import read_shared
from manymakes.texts import cut_rows, read_rows
from programs import due_names, full, held, mask_of, names_row, shared_text, some_mask


def rows_of(text):
    return [row.split() for row in text.split("/")]


def plain(text):
    """The faults of a plain text; / parts its rows."""
    return plain_names(read_plain(rows_of(text)))


def shared_tree(text, n):
    """The shared tree of a text, and the mask of the settings that it holds."""
    tree, faults = read_shared(read_rows(text, n), full(n))
    return tree, full(n) - sum(mask for mask, at, what in faults)


def shared(text, n, mask=None):
    tree, sound = shared_tree(text.replace("/", "\n"), n)
    return shared_names(tree, sound if mask is None else mask)


class Twice(unittest.TestCase):
    def test_defs_and_kinds(self):
        self.assertEqual(plain("kind k/kind k"), [(1, "twice", "k")])
        self.assertEqual(plain("def f num/give 1/end/def f num/give 1/end"), [(3, "twice", "f")])
        self.assertEqual(plain("kind k/def k num/give 1/end"), [(1, "twice", "k")])
        self.assertEqual(plain("def k num/give 1/end/kind k"), [(3, "twice", "k")])
        self.assertEqual(plain("kind k/kind p/def f num/end/def g num/end"), [])

    def test_each_further_one(self):
        self.assertEqual(plain("kind k//kind k/kind p/kind k/def k num/end/def p num/end"), [
            (2, "twice", "k"), (4, "twice", "k"), (5, "twice", "k"), (7, "twice", "p")])

    def test_names_of_other_sorts_are_none(self):
        self.assertEqual(plain("kind k k num/def f k k k f num/set f 1/set k f/end/set f 1/set f 2"), [])


class Nokind(unittest.TestCase):
    def test_of_a_def(self):
        self.assertEqual(plain("def f k/end"), [(0, "nokind", "k")])
        self.assertEqual(plain("def f num x k y p z k/end"), [(0, "nokind", "k"), (0, "nokind", "p")])
        self.assertEqual(plain("def f k x k/end"), [(0, "nokind", "k")])
        self.assertEqual(plain("def f num x truth y num/end/def g truth/end"), [])

    def test_the_name_of_a_def_is_no_kind(self):
        self.assertEqual(plain("def f f/end"), [(0, "nokind", "f")])
        self.assertEqual(plain("def f num/end/tell new f ."), [(2, "nokind", "f")])

    def test_seen_from_everywhere(self):
        self.assertEqual(plain("def f k x k/give new k ./end/tell new k ./kind k"), [])
        self.assertEqual(plain("kind k/def f k x k/give new k ./end"), [])

    def test_of_a_new(self):
        self.assertEqual(plain("tell new k ."), [(0, "nokind", "k")])
        self.assertEqual(plain("/set x new k new p . 1 ."), [(1, "nokind", "k"), (1, "nokind", "p")])
        self.assertEqual(plain("kind k u num/tell new k new p . ."), [(1, "nokind", "p")])


class Nofunc(unittest.TestCase):
    def test_of_a_do(self):
        self.assertEqual(plain("tell do f ."), [(0, "nofunc", "f")])
        self.assertEqual(plain("tell do f do g . do f . ."), [(0, "nofunc", "f"), (0, "nofunc", "g")])
        self.assertEqual(plain("kind k/tell do k ."), [(1, "nofunc", "k")])
        self.assertEqual(plain("set f 1/tell do f ."), [(1, "nofunc", "f")])

    def test_seen_from_everywhere(self):
        self.assertEqual(plain("tell do f ./def g num/give do f ./end/def f num/give do f ./end/tell do g ."), [])


class Count(unittest.TestCase):
    def test_of_a_do(self):
        begin = "def f num x num y num/give x/end/def g num/give 1/end/"
        for text, many in (("", 0), ("1", 1), ("1 2", 2), ("1 2 3", 3), ("+ 1 2", 1), ("do g . do g .", 2)):
            self.assertEqual(plain(f"{begin}tell do f {text} ."), [] if many == 2 else [(6, "count", "f")], text)
        self.assertEqual(plain(begin + "tell do g 1 ."), [(6, "count", "g")])

    def test_of_a_new(self):
        begin = "kind k u num v truth/kind p/"
        for text, many in (("", 0), ("1", 1), ("1 yes", 2), ("yes 1", 2), ("1 2 3", 3), ("+ 1 2", 1)):
            self.assertEqual(plain(f"{begin}tell new k {text} ."), [] if many == 2 else [(2, "count", "k")], text)
        self.assertEqual(plain(begin + "tell new p 1 ."), [(2, "count", "p")])

    def test_by_the_first_row_of_the_name(self):
        begin = "def f num/end/def f num x num/end/"
        self.assertEqual(plain(begin + "tell do f ."), [(2, "twice", "f")])
        self.assertEqual(plain(begin + "tell do f 1 ."), [(2, "twice", "f"), (4, "count", "f")])
        self.assertEqual(plain("tell new k ./kind k u num/kind k"), [(0, "count", "k"), (2, "twice", "k")])
        self.assertEqual(plain("tell new k 1 ./kind k u num/kind k"), [(2, "twice", "k")])

    def test_a_def_and_a_kind_of_one_name(self):
        begin = "def k num x num/end/kind k/"
        twice = (2, "twice", "k")
        self.assertEqual(plain(begin + "tell do k 1 ./tell new k ."), [twice])
        self.assertEqual(plain(begin + "tell do k ./tell new k 1 ."), [twice, (3, "count", "k"), (4, "count", "k")])
        begin = "kind k u num v num/def k k/end/"
        self.assertEqual(plain(begin + "tell do k ./tell new k 1 2 ."), [(1, "twice", "k")])

    def test_without_such_a_row_nothing_is_counted(self):
        self.assertEqual(plain("tell do f 1 2 ./tell new k 1 ."), [(0, "nofunc", "f"), (1, "nokind", "k")])

    def test_both_in_one_row(self):
        self.assertEqual(plain("def f num/end/tell do f 1 do f 2 . do f . ."), [(2, "count", "f")])


class Unset(unittest.TestCase):
    def test_the_example(self):
        self.assertEqual(plain("set x + x 1"), [(0, "unset", "x")])
        self.assertEqual(plain("set x + x 1/tell x/set x + x 1"), [(0, "unset", "x")])
        self.assertEqual(plain("set x 1/set x + x 1"), [])

    def test_in_each_row(self):
        for row, behind in (("tell", ""), ("set y", ""), ("if", "/end"), ("while", "/end")):
            self.assertEqual(plain(f"{row} x{behind}"), [(0, "unset", "x")])
            self.assertEqual(plain(f"set x 1/{row} x{behind}"), [])
            self.assertEqual(plain(f"{row} x{behind}/set x 1"), [(0, "unset", "x")])
        self.assertEqual(plain("def f num/give x/end"), [(1, "unset", "x")])

    def test_in_each_expr(self):
        for e in ("+ x 1", "+ 1 x", "- x x", "* 1 x", "less x 1", "same 1 x", "and x yes", "or yes x", "not x", "of x x",
                  "do x x .", "new x 1 x .", "not not x"):
            found = [fault for fault in plain("tell " + e) if fault[1] == "unset"]
            self.assertEqual(found, [(0, "unset", "x")], e)
            self.assertEqual([fault for fault in plain("set x 1/tell " + e) if fault[1] == "unset"], [], e)

    def test_names_that_are_not_read(self):
        self.assertEqual(plain("kind x u num/def f num/end/tell of y of z new x 1 ./tell do f ."), [])

    def test_blocks_belong_to_their_body(self):
        self.assertEqual(plain("if yes/set x 1/end/tell x"), [])
        self.assertEqual(plain("if yes/set x 1/else/tell x/end"), [])
        self.assertEqual(plain("if yes/tell x/else/set x 1/end"), [(1, "unset", "x")])
        self.assertEqual(plain("while yes/tell x/set x 1/end/tell x"), [(1, "unset", "x")])
        self.assertEqual(plain("if yes/while yes/if no/set x 1/end/end/end/while x/end"), [])
        self.assertEqual(plain("while x/set x 1/end"), [(0, "unset", "x")])

    def test_bodies_apart(self):
        self.assertEqual(plain("set x 1/def f num/give x/end"), [(2, "unset", "x")])
        self.assertEqual(plain("def f num/set x 1/give x/end/tell x"), [(4, "unset", "x")])
        self.assertEqual(plain("def f num x num/give x/end/tell x"), [(3, "unset", "x")])
        self.assertEqual(plain("def f num/set x 1/give x/end/def g num/give x/end"), [(5, "unset", "x")])
        self.assertEqual(plain("set x 1/def f num/set y 1/give y/end/tell x/tell y"), [(6, "unset", "y")])

    def test_the_top_goes_on_behind_a_def(self):
        self.assertEqual(plain("set x 1/def f num/if yes/set y 1/end/give y/end/if yes/tell x/end"), [])

    def test_params(self):
        self.assertEqual(plain("def f num x num y truth/set x + x 1/if y/give x/end/give x/end"), [])
        self.assertEqual(plain("def f num x num/give y/end/def g num y num/give x/end"), [(1, "unset", "y"), (4, "unset", "x")])

    def test_each_once(self):
        self.assertEqual(plain("tell + x + x y"), [(0, "unset", "x"), (0, "unset", "y")])


class Plain(unittest.TestCase):
    def test_without_faults(self):
        self.assertEqual(plain_names([]), [])
        self.assertEqual(plain("tell 1"), [])

    def test_sorted(self):
        self.assertEqual(plain("tell + do f . z/def k q x r/give + x new p do g . y ./end/kind k/tell a"), [
            (0, "nofunc", "f"), (0, "unset", "z"), (1, "nokind", "q"), (1, "nokind", "r"),
            (2, "nofunc", "g"), (2, "nokind", "p"), (2, "unset", "y"), (4, "twice", "k"), (5, "unset", "a")])

    def test_all_short_texts(self):
        rows = ("set x 1", "set y x", "tell + x y", "tell do f x .", "kind f", "if x")
        for chosen in itertools.product(rows, repeat=4):
            opened = sum(row == "if x" for row in chosen)
            words = [row.split() for row in chosen] + [["end"]] * opened
            if not any(row == "kind f" and "if x" in chosen[:at] for at, row in enumerate(chosen)):
                self.assertEqual(plain_names(read_plain(words)), due_names(words))

    def test_many_texts(self):
        chance = random.Random(22)
        seen = {}
        for count in range(1500):
            words = cut_rows(read_rows(shared_text(chance, 0, chance.randrange(1, 20), names_row, 0), 0), 0)
            told = plain_names(read_plain(words))
            self.assertEqual(told, due_names(words), words)
            for at, what, name in told:
                seen[what] = seen.get(what, 0) + 1
        self.assertEqual([what for what in ("twice", "nokind", "nofunc", "count", "unset") if seen.get(what, 0) < 100], [])


class Shared(unittest.TestCase):
    def test_by_hand(self):
        self.assertEqual(shared("<a set x 1 >/tell x", 1), [(1, 1, "unset", "x")])
        self.assertEqual(shared("<a set x 1 >/<b set x 1 >/tell x", 2), [(1, 2, "unset", "x")])
        self.assertEqual(shared("tell do f <a 1 > ./def f num <b x num >/end", 2), [(6, 0, "count", "f")])
        self.assertEqual(shared("<a kind k >/<b kind k u num >/<!a def k k >/<!a end >/tell new k .", 2), [
            (8, 1, "twice", "k"), (1, 2, "nokind", "k"), (4, 2, "twice", "k"), (4, 4, "count", "k"), (1, 4, "nokind", "k")])
        self.assertEqual(shared("<a if yes >/set <b x > <!b y > 1/<a end >/tell x", 2), [(3, 3, "unset", "x")])

    def test_one_tuple_of_unlike_rows_and_blocks(self):
        self.assertEqual(shared("tell <a x > <!a + x 1 >", 1), [(3, 0, "unset", "x")])
        self.assertEqual(shared("<a if yes > <!a while yes >/tell x/end", 1), [(3, 1, "unset", "x")])
        self.assertEqual(shared("if yes/<a else >/tell x/end", 1), [(3, 2, "unset", "x")])

    def test_the_first_row_of_each_setting(self):
        self.assertEqual(shared("<a def f num > <!a def f num x num >/end/<b def f num >/<b end >/tell do f .", 2), [
            (12, 2, "twice", "f"), (5, 4, "count", "f")])
        self.assertEqual(shared("<a kind k >/kind k u num/tell new k 1 .", 1), [(2, 1, "twice", "k"), (2, 2, "count", "k")])

    def test_bodies_of_each_setting(self):
        self.assertEqual(shared("def f num <a x num >/<b set x 1 >/give x/end/tell x", 2), [(1, 2, "unset", "x"), (15, 4, "unset", "x")])
        self.assertEqual(shared("<a def f num >/set x 1/<a give x >/<a end >/tell x", 1), [(2, 4, "unset", "x")])

    def test_a_set_row_that_reads(self):
        self.assertEqual(shared("<a set x 1 >/set x + x 1/tell x", 1), [(1, 1, "unset", "x")])

    def test_the_mask_alone(self):
        text = "<a set x 1 >/tell x/tell do f ."
        self.assertEqual(shared(text, 1, 2), [(2, 2, "nofunc", "f")])
        self.assertEqual(shared(text, 1, 1), [(1, 1, "unset", "x"), (1, 2, "nofunc", "f")])
        self.assertEqual(shared(text, 1, 0), [])
        self.assertEqual(shared("<a kind k >/<!a tell new k . >", 1, 1), [(1, 1, "nokind", "k")])
        self.assertEqual(shared("<a def f num >/<a end >/<!a tell do f . >", 1), [(1, 2, "nofunc", "f")])

    def test_settings_with_faults_of_reading(self):
        tree, sound = shared_tree("<a tell >\ntell x", 1)
        self.assertEqual((sound, shared_names(tree, sound)), (1, [(1, 1, "unset", "x")]))

    def test_without_statements(self):
        self.assertEqual(shared_names([], 15), [])
        self.assertEqual(shared("<a tell x >", 1), [(2, 0, "unset", "x")])

    def check(self, text, n, mask):
        rows = read_rows(text, n)
        tree, faults = read_shared(rows, full(n))
        mask &= full(n) - sum(there for there, at, what in faults)
        before = copy.deepcopy(tree)
        told = shared_names(tree, mask)
        self.assertEqual(tree, before)
        self.assertIs(told.__class__, list)
        due = {}
        for s in held(mask):
            cut = plain_names(cut_tree(tree, s))
            self.assertEqual([fault[1:] for fault in told if fault[0] >> s & 1], cut, text)
            self.assertEqual(cut, due_names(cut_rows(rows, s)), text)
            for fault in cut:
                due.setdefault(fault, []).append(s)
        self.assertEqual(told, [(mask_of(found),) + fault for fault, found in sorted(due.items())], text)
        for fault in told:
            self.assertIs(fault.__class__, tuple)
            self.assertIs(fault[0].__class__, int)
        return [fault for fault in told if fault[0] != mask]

    def test_many_texts(self):
        for n in range(4):
            chance = random.Random(n)
            seen = {}
            for count in range(300):
                text = shared_text(chance, n, chance.randrange(1, 25), names_row, 0.01)
                for mask, at, what, name in self.check(text, n, some_mask(chance, n)):
                    seen[what] = seen.get(what, 0) + 1
            if n > 0:
                self.assertEqual([what for what in ("twice", "nokind", "nofunc", "count", "unset") if seen.get(what, 0) < 10], [])

    def test_masks_of_one_text(self):
        chance = random.Random(23)
        for n in range(3):
            for count in range(20):
                text = shared_text(chance, n, 12, names_row, 0)
                for mask in range(full(n) + 1):
                    self.check(text, n, mask)

    def test_more_switches(self):
        chance = random.Random(46)
        for n in (4, 5, 6):
            for count in range(6):
                self.check(shared_text(chance, n, 30, names_row, 0.001), n, some_mask(chance, n))


class Own(unittest.TestCase):
    TEXT = "kind k\ndef f num <a x k >\ngive x\nend\n<b if y >\nset y do f .\n<b end >\ntell new k y ."

    def test_the_trees_handed_in_stay(self):
        words = cut_rows(read_rows(self.TEXT, 2), 3)
        tree = read_plain(words)
        before = copy.deepcopy(tree)
        told = plain_names(tree)
        self.assertIs(told.__class__, list)
        self.assertEqual(tree, before)
        tree[1][5].clear()
        tree.clear()
        self.assertEqual(told, due_names(words))

    def test_a_list_told_and_changed_changes_nothing(self):
        tree, sound = shared_tree(self.TEXT, 2)
        before = copy.deepcopy(tree)
        due = shared_names(tree, 15)
        self.assertGreater(len(due), 3)
        shared_names(tree, 15).clear()
        self.assertEqual(shared_names(tree, 15), due)
        self.assertEqual(tree, before)
        one = plain_names(cut_tree(tree, 0))
        one.append((0, "unset", "x"))
        self.assertEqual(plain_names(cut_tree(tree, 0)), one[:-1])

    def test_what_is_done_to_the_tree_behind_the_call(self):
        tree, sound = shared_tree(self.TEXT, 2)
        told = shared_names(tree, 15)
        due = list(told)
        tree[1][1][5].clear()
        tree.clear()
        self.assertEqual(told, due)


if __name__ == "__main__":
    unittest.main()
