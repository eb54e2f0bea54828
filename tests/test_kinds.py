"""Points 24 to 26 and LOOKING of point 3, and of point 2 what holds for the faults of kinds."""

import copy
import random
import unittest

from manymakes.cutting import cut_tree
from manymakes.kinds import plain_kinds, shared_kinds
from manymakes.names import plain_names, shared_names
from manymakes.plainread import read_plain
from manymakes.sharedread import read_shared
from manymakes.texts import cut_rows, read_rows
from programs import due_kinds, full, held, kinds_text, mask_of, some_mask

WHATS = ("kind", "field", "truth", "tell", "give")

# Kinds and defs for what is written by hand; the rows from number 12 on are free.
BEGIN = "kind k u num v truth/kind p u truth/kind q/def f num x num/give x/end/def g truth x k y truth/give y/end/def h k/give new k 1 yes ./end/"
FREE = 12


def rows_of(text):
    return [row.split() for row in text.split("/")]


def plain(text):
    """The faults of a plain text without faults of names; / parts its rows."""
    tree = read_plain(rows_of(text))
    assert plain_names(tree) == [], plain_names(tree)
    return plain_kinds(tree)


def free(text):
    """The faults of a text behind the kinds and defs, its rows from number 0 on."""
    return [(at - FREE, what) for at, what in plain(BEGIN + text)]


def sound_mask(rows, n):
    """The shared tree of rows, and the mask of the settings without a fault of reading or of names."""
    tree, faults = read_shared(rows, full(n))
    mask = full(n) - sum(there for there, at, what in faults)
    unnamed = {s for there, at, what, name in shared_names(tree, mask) for s in held(there)}
    return tree, mask - mask_of(unnamed)


def shared(text, n, mask=None):
    tree, sound = sound_mask(read_rows(text.replace("/", "\n"), n), n)
    return shared_kinds(tree, sound if mask is None else mask)


class Kind(unittest.TestCase):
    def test_operators(self):
        for word in ("+", "-", "*", "less", "same"):
            row = "set x " + word
            self.assertEqual(free(f"{row} 1 2/{row} yes 2/{row} 1 no/{row} new k 1 yes . 2/{row} 1 of v do h ."),
                             [(1, "kind"), (2, "kind"), (3, "kind"), (4, "kind")], word)
        for word in ("and", "or"):
            row = "set x " + word
            self.assertEqual(free(f"{row} yes no/{row} 1 yes/{row} yes 1/{row} yes new q ./{row} of u do h . no"),
                             [(1, "kind"), (2, "kind"), (3, "kind"), (4, "kind")], word)
        self.assertEqual(free("tell not yes/tell not 1/tell not new q ./tell not of v do h ."), [(1, "kind"), (2, "kind")])

    def test_what_operators_make(self):
        for word in ("+", "-", "*"):
            self.assertEqual(free(f"if {word} 1 2/end/tell not {word} 1 2/tell + 1 {word} 1 2"), [(0, "truth"), (2, "kind")])
        for word in ("less", "same"):
            self.assertEqual(free(f"if {word} 1 2/end/tell not {word} 1 2/tell + 1 {word} 1 2"), [(3, "kind")])
        for word in ("and", "or"):
            self.assertEqual(free(f"if {word} yes no/end/tell not {word} no no/tell + 1 {word} no yes"), [(3, "kind")])
        self.assertEqual(free("if not yes/end/tell + 1 not yes"), [(2, "kind")])

    def test_they_make_it_whatever_stands_in_them(self):
        self.assertEqual(free("if less yes no/end/if and 1 2/end/if not 1/end/tell + 1 + yes no"),
                         [(0, "kind"), (2, "kind"), (4, "kind"), (6, "kind")])
        self.assertEqual(free("if + yes no/end"), [(0, "kind"), (0, "truth")])
        self.assertEqual(free("tell + 1 do f yes ./if do f yes ./end"), [(0, "kind"), (1, "kind"), (1, "truth")])
        self.assertEqual(free("tell of u new k yes 1 ./tell new k yes 1 ."), [(0, "kind"), (1, "kind"), (1, "tell")])

    def test_a_do(self):
        self.assertEqual(free("tell do f 1 ./tell do f yes ./tell do f new k 1 yes . ./tell do f do f 2 . ."), [(1, "kind"), (2, "kind")])
        self.assertEqual(free("tell do g do h . yes ./tell do g yes do h . ./tell do g do h . 1 ./tell do g new p yes . yes ."),
                         [(1, "kind"), (2, "kind"), (3, "kind")])
        self.assertEqual(free("if do g do h . no ./end/if do f 1 ./end/tell of u do h ./tell + 1 do f 1 ."), [(2, "truth")])

    def test_a_def_below(self):
        self.assertEqual(plain("tell + 1 do f yes ./if do f 1 ./end/def f truth x num/give yes/end"), [(0, "kind")])

    def test_a_new(self):
        self.assertEqual(free("set z new k 1 yes ./set z new k yes yes ./set z new k 1 1 ./set z new k new q . yes ."),
                         [(1, "kind"), (2, "kind"), (3, "kind")])
        self.assertEqual(free("tell do g new k 1 yes . yes ./tell do g new p yes . yes ."), [(1, "kind")])

    def test_a_set(self):
        self.assertEqual(free("set x 1/set x 2/set x yes/set x new q ./set x + x 1"), [(2, "kind"), (3, "kind")])
        self.assertEqual(free("set z do h ./set z new k 2 no ./set z new p yes ./set z of u z"), [(2, "kind"), (3, "kind")])

    def test_the_first_set_row_has_no_fault_of_its_own(self):
        for e in ("1", "yes", "new k 1 yes .", "do f 1 ."):
            self.assertEqual(free(f"set x {e}/set x {e}"), [])

    def test_the_first_set_row_in_a_block(self):
        self.assertEqual(free("if yes/set x yes/end/set x 1/tell + x 1/if x/end"), [(3, "kind"), (4, "kind")])
        self.assertEqual(free("if yes/set x 1/else/set x yes/end/tell not x"), [(3, "kind"), (5, "kind")])
        self.assertEqual(free("while no/if no/set x 1/end/end/tell + x 1/set x no"), [(6, "kind")])

    def test_params(self):
        self.assertEqual(plain("def f num x num/set x yes/set x 1/tell not x/give x/end"), [(1, "kind"), (3, "kind")])
        self.assertEqual(plain("kind k u num/def f num x k/set x new k 1 ./set x 1/give of u x/end"), [(3, "kind")])
        self.assertEqual(plain("def f num x truth/if x/end/give x/end"), [(3, "kind")])

    def test_names_of_each_body(self):
        self.assertEqual(plain("set x 1/def f truth x truth/give x/end/def g num/set x yes/give x/end/tell + x 1"), [(6, "kind")])
        self.assertEqual(plain("def f num/set x yes/give 1/end/set x 1/tell + x 1"), [])
        self.assertEqual(plain("set x 1/def f num/set x yes/give 1/end/set x 2"), [])

    def test_a_give(self):
        self.assertEqual(plain("def f num/give 1/give yes/end"), [(2, "kind")])
        self.assertEqual(plain("def f truth/if yes/give 1/else/give no/end/while no/give 2/end/give yes/end"), [(2, "kind"), (7, "kind")])
        self.assertEqual(plain("kind k/kind p/def f k/give new k ./end/def g p/give new k ./end/def h k/give do g ./end"),
                         [(6, "kind"), (9, "kind")])

    def test_within_exprs(self):
        self.assertEqual(free("set x not not not + 1 yes"), [(0, "kind")])
        self.assertEqual(free("set x new k + 1 do f - no 1 . not yes ."), [(0, "kind")])
        self.assertEqual(free("set x of u new k 1 less yes 1 ."), [(0, "kind")])
        self.assertEqual(free("tell do g new k 1 and yes do f 1 . . yes ."), [(0, "kind")])
        self.assertEqual(free("tell same of u new k + 1 2 no . * 3 4"), [])

    def test_each_once(self):
        self.assertEqual(free("set x 1/set x and + yes no less yes no/tell not + 1 not 2"), [(1, "kind"), (2, "kind")])


class Field(unittest.TestCase):
    def test_of_num_and_truth(self):
        self.assertEqual(free("tell of u 1/tell of u yes/tell of u + 1 2/tell of v do f 1 ."), [(at, "field") for at in range(4)])

    def test_of_a_kind_without_it(self):
        self.assertEqual(free("tell of u new k 1 yes ./tell of v new k 1 yes ./tell of w new k 1 yes ./tell of k new k 1 yes ."),
                         [(2, "field"), (3, "field")])
        self.assertEqual(free("tell of u new p yes ./tell of v new p yes ./tell of u new q ."), [(1, "field"), (2, "field")])

    def test_what_it_makes(self):
        self.assertEqual(free("tell + 1 of u do h ./tell not of v do h ./tell not of u do h ./tell + 1 of v do h ."),
                         [(2, "kind"), (3, "kind")])
        self.assertEqual(free("tell + 1 of u new p no ./if of u new p no ./end"), [(0, "kind")])

    def test_where_it_is_not_known_nothing_is_asked(self):
        for e in ("of u 1", "of w do h .", "of u new q ."):
            rows = f"tell + 1 {e}/tell not {e}/if {e}/end/while {e}/end/tell do f {e} ./tell do g {e} {e} ./set z new k {e} {e} .".split("/")
            self.assertEqual(free("/".join(rows)), [(at, "field") for at, row in enumerate(rows) if row != "end"], e)
            self.assertEqual(free(f"set x 1/set x {e}"), [(1, "field")])
            self.assertEqual(plain(BEGIN + f"def e num/give {e}/end"), [(13, "field")])

    def test_of_what_is_not_known(self):
        self.assertEqual(free("tell of u of u 1/tell of u of w do h ."), [(0, "field"), (1, "field")])
        self.assertEqual(free("set x of u 1/tell of u x/tell of nothing of u x"), [(0, "field")])

    def test_a_name_that_is_not_known(self):
        self.assertEqual(free("set x of u 1/tell + x 1/tell not x/if x/end/tell x/set x 1/set x yes/set x new q ./tell not x"), [(0, "field")])
        self.assertEqual(free("set x of u 1/set y x/set y 1/set y no"), [(0, "field")])
        self.assertEqual(free("if yes/set x of u 1/else/set x 1/end/set x yes"), [(1, "field")])

    def test_a_field_of_a_field(self):
        self.assertEqual(free("tell of u of u do h ./tell of v of v do h ."), [(0, "field"), (1, "field")])

    def test_both_in_one_row(self):
        self.assertEqual(free("if + of u 1 yes/end"), [(0, "field"), (0, "kind"), (0, "truth")])


class Truth(unittest.TestCase):
    def test_if_and_while(self):
        for word in ("if", "while"):
            self.assertEqual(free(f"{word} yes/end/{word} 1/end/{word} new q ./end/{word} do f 1 ./end/{word} of v do h ./end"),
                             [(2, "truth"), (4, "truth"), (6, "truth")])
            self.assertEqual(plain(f"def f num/{word} 1/give 1/end/give 2/end"), [(1, "truth")])

    def test_in_blocks(self):
        self.assertEqual(free("if yes/while 1/if 2/end/end/else/if 3/end/end"), [(1, "truth"), (2, "truth"), (6, "truth")])


class Tell(unittest.TestCase):
    def test_records(self):
        self.assertEqual(free("tell 1/tell yes/tell new q ./tell do h ./tell of u do h ./tell do f 1 ./set z do h ./tell z"),
                         [(2, "tell"), (3, "tell"), (7, "tell")])

    def test_in_blocks_and_defs(self):
        self.assertEqual(plain("kind k/def f num x k/if yes/tell x/end/give 1/end/while no/tell new k ./end"), [(3, "tell"), (8, "tell")])

    def test_a_record_in_a_record_is_none(self):
        self.assertEqual(free("tell new k 1 new q . ."), [(0, "kind"), (0, "tell")])


class Give(unittest.TestCase):
    def test_the_last_statement(self):
        self.assertEqual(plain("def f num/end"), [(0, "give")])
        self.assertEqual(plain("def f num//end"), [(0, "give")])
        self.assertEqual(plain("tell 1/def f num/tell 1/end"), [(1, "give")])
        self.assertEqual(plain("def f num/give 1/tell 2/end"), [(0, "give")])
        self.assertEqual(plain("def f num/tell 2/give 1//end"), [])
        self.assertEqual(plain("def f num/give 1/set x 1/end"), [(0, "give")])

    def test_a_block_that_ends_in_one_is_none(self):
        self.assertEqual(plain("def f num/if yes/give 1/else/give 2/end/end"), [(0, "give")])
        self.assertEqual(plain("def f num/while yes/give 1/end/end"), [(0, "give")])
        self.assertEqual(plain("def f num/if yes/tell 1/else/tell 2/end/give 1/end"), [])

    def test_each_def(self):
        self.assertEqual(plain("def f num/end/def g num/give 1/end/def h num/tell 1/end"), [(0, "give"), (5, "give")])

    def test_a_give_of_another_kind_is_one(self):
        self.assertEqual(plain("def f num/give yes/end"), [(1, "kind")])


class Plain(unittest.TestCase):
    def test_without_faults(self):
        self.assertEqual(plain_kinds([]), [])
        self.assertEqual(plain("tell 1"), [])
        self.assertEqual(free(""), [])

    def test_sorted(self):
        self.assertEqual(free("tell new k yes of u 1 ./if of u + yes 1/end/def e num/if 1/end/end"),
                         [(0, "field"), (0, "kind"), (0, "tell"), (1, "field"), (1, "kind"), (3, "give"), (4, "truth")])

    def test_many_texts(self):
        chance = random.Random(24)
        seen, clean, dark = {}, 0, 0
        for count in range(500):
            words = cut_rows(read_rows(kinds_text(chance, 0), 0), 0)
            tree = read_plain(words)
            if plain_names(tree):
                dark += 1
                continue
            told = plain_kinds(tree)
            self.assertEqual(told, due_kinds(words), words)
            clean += sum(bool(row) for row in words) - len(told)
            for at, what in told:
                seen[what] = seen.get(what, 0) + 1
        self.assertLess(dark, 100)
        self.assertGreater(clean, 1000)
        self.assertEqual([what for what in WHATS if seen.get(what, 0) < 100], [])


class Shared(unittest.TestCase):
    def test_by_hand(self):
        self.assertEqual(shared("set x <a 1 > <!a yes >/tell + x 1/if x/end", 1), [(1, 1, "kind"), (2, 2, "truth")])
        self.assertEqual(shared("<a set x 1 >/<!a set x yes >/set x <b 1 > <!b yes >", 2), [(6, 2, "kind")])
        self.assertEqual(shared("kind k <a u > <!a v > num/tell of <b u > <!b v > new k 1 .", 2), [(6, 1, "field")])
        self.assertEqual(shared("def f <a num > <!a truth > x <b num > <!b truth >/give x/end/tell do f 1 .", 2),
                         [(6, 1, "kind"), (3, 3, "kind")])
        self.assertEqual(shared("kind k <a u num >/tell <a of u > new k <a 1 > .", 1), [(1, 1, "tell")])

    def test_the_first_set_row_of_each_setting(self):
        self.assertEqual(shared("<a if yes >/<b set x 1 >/<a end >/set x yes/tell not x", 2), [(12, 3, "kind"), (12, 4, "kind")])
        self.assertEqual(shared("<a set x of u 1 >/set x yes/set x 2/tell + x 1", 1), [(2, 0, "field"), (1, 2, "kind"), (1, 3, "kind")])

    def test_not_known_in_some_settings(self):
        self.assertEqual(shared("kind k <a u > <!a v > num/set x of u new k 1 ./set x yes/tell not x", 1),
                         [(1, 1, "field"), (2, 2, "kind"), (2, 3, "kind")])

    def test_the_last_statement_of_each_setting(self):
        self.assertEqual(shared("def f num/<a give 1 >/<b tell 1 >/<&ab give 2 >/end", 2), [(5, 0, "give")])
        self.assertEqual(shared("def f num/give 1/<a if yes >/give 2/<a end >/end", 1), [(2, 0, "give")])
        self.assertEqual(shared("<a def f num > <!a def g num >/<b give 1 >/end", 2), [(3, 0, "give")])

    def test_one_tuple_of_unlike_rows_and_blocks(self):
        self.assertEqual(shared("tell + <a yes > <!a no > 1", 1), [(3, 0, "kind")])
        self.assertEqual(shared("<a if yes > <!a while yes >/tell not 1/end", 1), [(3, 1, "kind")])
        self.assertEqual(shared("if yes/<a else >/if 1/end/end", 1), [(3, 2, "truth")])
        self.assertEqual(shared("def f <a num > <!a truth >/end", 1), [(3, 0, "give")])

    def test_the_mask_alone(self):
        text = "set x <a 1 > <!a yes >/tell + x 1/tell not 1"
        self.assertEqual(shared(text, 1, 2), [(2, 2, "kind")])
        self.assertEqual(shared(text, 1, 1), [(1, 1, "kind"), (1, 2, "kind")])
        self.assertEqual(shared(text, 1, 0), [])

    def test_settings_with_faults_of_names_beside_the_mask(self):
        text = "<a kind k u num >/<a set x new k 1 . >/<b set x 1 >/tell + do f . x/<a def f num >/<a give of u x >/<a end >"
        tree, sound = sound_mask(read_rows(text.replace("/", "\n"), 2), 2)
        self.assertEqual(sound, 0)
        text = "<a set x 1 >/tell + x 1/<a kind k >/set z <a new k . > <!a 1 >/tell <a z > <!a do f . >"
        self.assertEqual(shared(text, 1), [(2, 4, "tell")])
        text = "<a kind k u num > <!a kind k >/<b kind k v num >/set x new k 1 ./tell of u x"
        self.assertEqual(shared(text, 2), [])
        self.assertEqual(shared(text.replace("of u", "of v"), 2), [(2, 3, "field")])

    def test_without_statements(self):
        self.assertEqual(shared_kinds([], 15), [])
        self.assertEqual(shared("<a tell not 1 >", 1), [(2, 0, "kind")])

    def check(self, text, n, mask):
        rows = read_rows(text, n)
        tree, sound = sound_mask(rows, n)
        mask &= sound
        before = copy.deepcopy(tree)
        told = shared_kinds(tree, mask)
        self.assertEqual(tree, before)
        self.assertIs(told.__class__, list)
        due = {}
        for s in held(mask):
            cut = plain_kinds(cut_tree(tree, s))
            self.assertEqual([fault[1:] for fault in told if fault[0] >> s & 1], cut, text)
            self.assertEqual(cut, due_kinds(cut_rows(rows, s)), text)
            for fault in cut:
                due.setdefault(fault, []).append(s)
        self.assertEqual(told, [(mask_of(found),) + fault for fault, found in sorted(due.items())], text)
        for fault in told:
            self.assertIs(fault.__class__, tuple)
            self.assertIs(fault[0].__class__, int)
        return mask, [fault for fault in told if fault[0] != mask]

    def test_many_texts(self):
        for n in range(4):
            chance = random.Random(n)
            seen, asked = {}, 0
            for count in range((120, 120, 90, 60)[n]):
                mask, faults = self.check(kinds_text(chance, n), n, some_mask(chance, n))
                asked += len(held(mask))
                for there, at, what in faults:
                    seen[what] = seen.get(what, 0) + 1
            self.assertGreater(asked, 30)
            if n > 0:
                self.assertEqual([what for what in WHATS if seen.get(what, 0) < 10], [], (n, seen))

    def test_masks_of_one_text(self):
        chance = random.Random(26)
        for n in range(3):
            for count in range(6):
                text = kinds_text(chance, n)
                for mask in range(full(n) + 1):
                    self.check(text, n, mask)

    def test_more_switches(self):
        chance = random.Random(46)
        for n in (4, 5, 6):
            for count in range(3):
                self.check(kinds_text(chance, n), n, full(n))


class Own(unittest.TestCase):
    TEXT = "kind k u <a num > <!a truth >\ndef f num x k\n<b give of u x >\nend\nset y yes\n<b if y >\nset y 1\n<b end >\ntell + y of v new k 1 ."

    def test_the_trees_handed_in_stay(self):
        words = cut_rows(read_rows(self.TEXT, 2), 3)
        tree = read_plain(words)
        before = copy.deepcopy(tree)
        told = plain_kinds(tree)
        self.assertIs(told.__class__, list)
        self.assertEqual(tree, before)
        tree[1][5].clear()
        tree.clear()
        self.assertEqual(told, due_kinds(words))

    def test_a_list_told_and_changed_changes_nothing(self):
        tree, sound = sound_mask(read_rows(self.TEXT, 2), 2)
        self.assertEqual(sound, 15)
        before = copy.deepcopy(tree)
        due = shared_kinds(tree, 15)
        self.assertGreater(len(due), 3)
        shared_kinds(tree, 15).clear()
        self.assertEqual(shared_kinds(tree, 15), due)
        self.assertEqual(tree, before)
        one = plain_kinds(cut_tree(tree, 0))
        one.append((0, "kind"))
        self.assertEqual(plain_kinds(cut_tree(tree, 0)), one[:-1])

    def test_what_is_done_to_the_tree_behind_the_call(self):
        tree, sound = sound_mask(read_rows(self.TEXT, 2), 2)
        told = shared_kinds(tree, 15)
        due = list(told)
        tree[2][1][5].clear()
        tree.clear()
        self.assertEqual(told, due)


if __name__ == "__main__":
    unittest.main()
