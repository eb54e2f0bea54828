"""Point 33 and RUNNING of point 3, and of point 2 what holds for the shared run."""

import copy
import random
import sys
import unittest

from manymakes.cutting import cut_tree, kept_tree
from manymakes.kinds import shared_kinds
from manymakes.names import shared_names
from manymakes.plainrun import run_plain
from manymakes.sharedread import read_shared
from manymakes.sharedrun import run_shared
from manymakes.texts import cut_rows, read_rows
from programs import Machine, full, held, mask_of, run_text

OUTCOMES = ("done", "long", "deep", "unset")


def read(text, n):
    """The rows and the shared tree of a text, and the mask of its sound settings; / parts the rows."""
    rows = read_rows(text.replace("/", "\n"), n)
    tree, faults = read_shared(rows, full(n))
    sound = set(range(2 ** n)) - {s for there, at, what in faults for s in held(there)}
    sound -= {s for there, at, what, name in shared_names(tree, mask_of(sound)) for s in held(there)}
    sound -= {s for there, at, what in shared_kinds(tree, mask_of(sound)) for s in held(there)}
    return rows, tree, mask_of(sound)


def run(text, n, most=400, mask=None):
    rows, tree, sound = read(text, n)
    assert mask is not None or sound == full(n), (text, sound)
    return run_shared(tree, sound if mask is None else mask, most)


def times(log, at):
    """The masks with which a row is in the log."""
    return [mask for mask, row in log if row == at]


def main_rows(statements, whiles=0):
    """The tuples of the main of a shared tree, (mask, word, at), with the number of whiles around each."""
    for mask, one in statements:
        if one[0] not in ("kind", "def"):
            yield mask, one[0], one[1], whiles
            for part in one:
                if isinstance(part, list):
                    yield from main_rows(part, whiles + (one[0] == "while"))


class Checked(unittest.TestCase):
    def check_parts(self, parts, mask):
        """Asks for the form of point 27, over just the mask, and for the kinds of values."""
        self.assertIs(parts.__class__, list)
        self.assertEqual(sum(there for there, value in parts), mask)
        self.assertEqual(sorted(s for there, value in parts for s in held(there)), held(mask))
        self.assertEqual(len({value for there, value in parts}), len(parts))
        firsts = [held(there)[0] for there, value in parts]
        self.assertEqual(firsts, sorted(firsts))
        for pair in parts:
            self.assertEqual([part.__class__ for part in pair], [int, tuple])
            self.assertEqual([part.__class__ for part in pair[1]], [str, tuple, int])
            self.assertIn(pair[1][0], OUTCOMES)
        self.assertTrue({pair.__class__ for pair in parts} <= {tuple})

    def check_log(self, log, mask):
        self.assertIs(log.__class__, list)
        for pair in log:
            self.assertEqual((pair.__class__, [part.__class__ for part in pair]), (tuple, [int, int]))
            self.assertNotEqual(pair[0], 0)
            self.assertEqual(pair[0] & mask, pair[0])

    def check_times(self, tree, mask, log, logs):
        """Asks how often rows of the main are in the log; logs are the plain ones by settings."""
        for there, word, at, whiles in main_rows(tree):
            often = len([masks for masks, row in log if row == at and masks & there])
            if whiles == 0 and word != "while":
                self.assertLessEqual(often, 1, at)
            elif whiles == 0:
                self.assertLessEqual(often, max([logs[s].count(at) for s in held(there & mask)], default=0), at)

    def check(self, rows, tree, mask, most):
        before = copy.deepcopy(tree)
        answer = run_shared(tree, mask, most)
        self.assertEqual(tree, before)
        self.assertIs(answer.__class__, tuple)
        parts, log = answer
        self.check_parts(parts, mask)
        self.check_log(log, mask)
        logs = {}
        for there, value in parts:
            for s in held(there):
                outcome, told, logs[s] = run_plain(cut_tree(tree, s), most)
                self.assertEqual((outcome, told, logs[s]), Machine(cut_rows(rows, s), most).answer())
                self.assertEqual(value, (outcome, told, len(logs[s])))
                self.assertEqual([part.__class__ for part in value[1]], [part.__class__ for part in told])
                self.assertEqual([at for masks, at in log if masks >> s & 1], logs[s])
        self.check_times(tree, mask, log, logs)
        return parts, log

    def checked(self, text, n, most=400):
        """Runs a text over all its sound settings, over each one and over all but one; tells the first."""
        rows, tree, sound = read(text, n)
        for s in held(sound):
            self.check(rows, tree, 1 << s, most)
            self.check(rows, tree, sound ^ 1 << s, most)
        return self.check(rows, tree, sound, most)


class ByHand(Checked):
    def test_no_switches(self):
        self.assertEqual(self.checked("set x 1/tell + x 1/tell yes", 0), ([(1, ("done", (2, "yes"), 3))], [(1, 0), (1, 1), (1, 2)]))
        self.assertEqual(self.checked("", 0), ([(1, ("done", (), 0))], []))
        self.assertEqual(self.checked("tell 1", 0, 0), ([(1, ("long", (), 0))], []))

    def test_no_settings(self):
        self.assertEqual(run("tell 1", 2, 400, 0), ([], []))
        self.assertEqual(run_shared([], 0, 400), ([], []))

    def test_no_statements(self):
        self.assertEqual(run_shared([], 15, 400), ([(15, ("done", (), 0))], []))
        self.assertEqual(self.checked("<a tell 1 >", 1), ([(1, ("done", (), 0)), (2, ("done", (1,), 1))], [(2, 0)]))

    def test_words_under_wishes(self):
        parts, log = self.checked("tell <a 1 > <!a 2 >/tell + 1 <b 1 > <!b 0 >/tell 5", 2)
        self.assertEqual(parts, [(1, ("done", (2, 1, 5), 3)), (2, ("done", (1, 1, 5), 3)), (4, ("done", (2, 2, 5), 3)), (8, ("done", (1, 2, 5), 3))])
        self.assertEqual(sorted(times(log, 0)), [5, 10])
        self.assertEqual(sorted(times(log, 1)), [3, 12])
        self.assertEqual(times(log, 2), [15])

    def test_alike_answers_are_one_part(self):
        parts, log = self.checked("<a set x 1 > <!a set x 2 >/<a tell + x 1 > <!a tell x >", 1)
        self.assertEqual(parts, [(3, ("done", (2,), 2))])
        self.assertEqual(len(log), 4)

    def test_unlike_in_steps_or_outcome_alone(self):
        self.assertEqual(self.checked("<a set x 1 >/tell 1", 1)[0], [(1, ("done", (1,), 1)), (2, ("done", (1,), 2))])
        self.assertEqual(self.checked("tell 1/<a tell 2 >", 1, 1)[0], [(1, ("done", (1,), 1)), (2, ("long", (1,), 1))])

    def test_the_order_of_the_parts(self):
        parts, log = self.checked("tell <?a1?b01 1 > <?a0?b10 2 >", 2)
        self.assertEqual(parts, [(11, ("done", (1,), 1)), (4, ("done", (2,), 1))])
        parts, log = self.checked("tell <&ab 1 > <!&ab 2 >", 2)
        self.assertEqual(parts, [(7, ("done", (2,), 1)), (8, ("done", (1,), 1))])

    def test_settings_out_of_the_mask(self):
        text = "tell <a 1 > <!a 2 >/<b tell 3 >/tell 4"
        rows, tree, sound = read(text, 2)
        self.assertEqual(run_shared(tree, 4, 400), ([(4, ("done", (2, 3, 4), 3))], [(4, 0), (4, 1), (4, 2)]))
        self.assertEqual(run_shared(tree, 9, 2), ([(1, ("done", (2, 4), 2)), (8, ("long", (1, 3), 2))], [(1, 0), (8, 0), (8, 1), (1, 2)]))

    def test_steps_of_each_setting(self):
        text = "<a set x 1 >/<b set x 2 >/tell 3/tell 4"
        for most in range(6):
            parts, log = self.checked(text, 2, most)
            for there, (outcome, told, steps) in parts:
                for s in held(there):
                    due = 2 + bin(s).count("1")
                    self.assertEqual((outcome, steps), ("done" if most >= due else "long", min(most, due)))

    def test_values_that_part_the_settings(self):
        text = "set x <a 1 > <!a 0 >/set x + * x 2 <b 1 > <!b 0 >/if less x 2/tell x/else/tell + x 10/end/tell same x 3"
        parts, log = self.checked(text, 2)
        self.assertEqual([(there, told) for there, (outcome, told, steps) in parts],
                         [(1, (0, "no")), (2, (12, "no")), (4, (1, "no")), (8, (13, "yes"))])
        self.assertEqual((times(log, 2), times(log, 3), times(log, 5), times(log, 7)), ([15], [5], [10], [15]))


class Together(Checked):
    """Settings run a row at once where they come to it together."""

    BEGIN = "set x <a 1 > <!a 0 >/set y <b 1 > <!b 0 >/"

    def test_behind_an_if(self):
        for text in ("if same x 1/tell 1/else/tell 2/end/tell 3", "if same x 1/tell 1/end/tell 3", "if same x 1/else/tell 2/end/tell 3",
                     "if same x 1/if same y 1/tell 1/else/tell 2/end/else/if same y 1/tell 4/end/end/tell 3"):
            log = self.checked(self.BEGIN + text, 2)[1]
            self.assertEqual(times(log, 2), [15])
            self.assertEqual(log[-1], (15, 2 + text.count("/")))

    def test_behind_a_while(self):
        text = self.BEGIN + "set i 0/while less i + x * 2 y/set i + i 1/end/tell i"
        parts, log = self.checked(text, 2)
        self.assertEqual([told for there, (outcome, told, steps) in parts], [(0,), (1,), (2,), (3,)])
        self.assertEqual(times(log, 3), [15, 14, 12, 8])
        self.assertEqual(times(log, 4), [14, 12, 8])
        self.assertEqual(log[-1], (15, 6))

    def test_a_while_as_often_as_in_the_setting_where_it_is_most_often(self):
        # First those without a go on, then those with a: yet they go together.
        text = self.BEGIN + "set i 0/while less i 4/if same x 1/set i + i 1/else/set i + i 2/end/end/tell i"
        parts, log = self.checked(text, 2)
        self.assertEqual(times(log, 3), [15, 15, 15, 10, 10])
        self.assertEqual(log[-1], (15, 10))

    def test_a_while_in_an_if_and_in_a_while(self):
        text = self.BEGIN + "if same x 1/set i 0/while less i 2/set j 0/while less j y/set j + j 1/end/set i + i 1/end/tell 5/end/tell 6"
        log = self.checked(text, 2)[1]
        self.assertEqual(times(log, 4), [10, 10, 10])
        self.assertEqual((times(log, 11), times(log, 13)), ([10], [15]))

    def test_rows_of_a_block_that_some_settings_have(self):
        log = self.checked("set x 0/<a if yes >/tell 1/tell 2/<a end >/tell 3", 1)[1]
        self.assertEqual((sorted(times(log, 2)), sorted(times(log, 3)), times(log, 5)), ([1, 2], [1, 2], [3]))

    def test_a_def_runs_at_once(self):
        text = "def f num x num/tell x/if less x 1/give 7/end/tell 8/give + x 1/end/tell do f <a 1 > <!a 0 > ./tell do f <a 1 > <!a 0 > ."
        parts, log = self.checked(text, 1)
        self.assertEqual(parts, [(1, ("done", (0, 7, 0, 7), 8)), (2, ("done", (1, 8, 2, 1, 8, 2), 10))])
        # The rows that do it are unlike in words: nothing comes together.
        self.assertEqual(sorted(times(log, 1)), [1, 1, 2, 2])
        text = self.BEGIN + "def f num x num/tell x/if less x 1/give 7/end/tell 8/give + x 1/end/tell do f x ./tell 9"
        parts, log = self.checked(text, 2)
        self.assertEqual([times(log, at) for at in (3, 4, 5, 7, 8, 10, 11)], [[15], [15], [5], [10], [10], [15], [15]])

    def test_behind_gives(self):
        text = self.BEGIN + "def f num x num y num/while less x 3/if same x 1/give 5/end/set x + x + y 1/end/give x/end/tell do f x y ./tell 9"
        parts, log = self.checked(text, 2)
        self.assertEqual(parts, [(1, ("done", (5, 9), 10)), (10, ("done", (5, 9), 7)), (4, ("done", (4, 9), 12))])
        self.assertEqual(times(log, 3), [15, 5, 4])
        self.assertEqual(log[-1], (15, 12))

    def test_settings_at_an_end_do_not_hold_up_others(self):
        text = self.BEGIN + "if same x 1/set z 5/end/tell 1/tell + z 1/tell 2/if same y 1/while yes/end/end/tell 3"
        parts, log = self.checked(text, 2, 20)
        self.assertEqual(parts, [(5, ("unset", (1,), 5)), (2, ("done", (1, 6, 2, 3), 9)), (8, ("long", (1, 6, 2), 20))])
        self.assertEqual((times(log, 5), times(log, 6), times(log, 7), times(log, 12)), ([15], [15], [10], [2]))


class Ends(Checked):
    def test_unset_in_some(self):
        text = "set x <a 1 > <!a 0 >/if same x 1/set y 3/end/tell 1/tell y/tell 2"
        parts, log = self.checked(text, 1)
        self.assertEqual(parts, [(1, ("unset", (1,), 4)), (2, ("done", (1, 3, 2), 6))])

    def test_unset_in_the_second_part(self):
        text = "set x <a 1 > <!a 0 >/if same x 1/set y yes/end/def f truth/tell 7/give yes/end/tell or yes and y do f ./tell 2"
        parts, log = self.checked(text, 1)
        self.assertEqual(parts, [(1, ("unset", (), 3)), (2, ("done", (7, "yes", 2), 7))])
        self.assertEqual(times(log, 5), [2])

    def test_deep_in_some(self):
        text = "def f num x num/if same x 0/give 0/end/give + 1 do f - x 1 ./end/set x <a 5 > <!a 6 >/tell do f x ./tell 1"
        parts, log = self.checked(text, 1)
        self.assertEqual(parts, [(1, ("deep", (), 14)), (2, ("done", (5, 1), 15))])
        self.assertEqual(times(log, 1), [3] * 6)

    def test_long_in_a_def(self):
        text = "def f num x num/set i 0/while less i x/set i + i 1/end/give i/end/set x <a 2 > <!a 5 >/tell + 1 do f x ./tell 1"
        for most in range(20):
            self.checked(text, 1, most)
        self.assertEqual(self.checked(text, 1, 10)[0], [(1, ("long", (), 10)), (2, ("done", (3, 1), 10))])

    def test_deep_and_long_and_unset_and_done(self):
        text = ("def f num/give do f ./end/set x <a 1 > <!a 0 >/set y <b 1 > <!b 0 >/if same y 0/set z 1/end/if same x 0/tell 1/"
                "if same y 0/tell do f ./else/tell z/end/else/if same y 0/while yes/end/end/end/tell 2")
        parts, log = self.checked(text, 2, 30)
        self.assertEqual([(there, value[0]) for there, value in parts], [(1, "deep"), (2, "long"), (4, "unset"), (8, "done")])


class Cut(Checked):
    """What a setting's own tree says, whatever the others' say."""

    def test_defs_by_settings(self):
        text = "def f num x num/give <a x > <!a + x 1 >/end/tell do f 1 ./tell do f 2 ."
        self.assertEqual(self.checked(text, 1)[0], [(1, ("done", (2, 3), 4)), (2, ("done", (1, 2), 4))])
        text = "<a def f num x num >/<a give 5 >/<a end >/<!a def f num y num >/<!a give y >/<!a end >/tell do f 1 ./tell 2"
        parts, log = self.checked(text, 1)
        self.assertEqual(parts, [(1, ("done", (1, 2), 3)), (2, ("done", (5, 2), 3))])
        self.assertEqual((times(log, 6), times(log, 7)), ([3], [3]))

    def test_params_by_settings(self):
        text = "def f num <a x num y num > <!a y num x num >/give - x y/end/tell do f 5 3 ."
        self.assertEqual(self.checked(text, 1)[0], [(1, ("done", (10 ** 18 - 2,), 2)), (2, ("done", (2,), 2))])
        text = "def f <a num > <!a truth > x <a num > <!a truth >/give x/end/tell do f <a 1 > <!a yes > ."
        self.assertEqual(self.checked(text, 1)[0], [(1, ("done", ("yes",), 2)), (2, ("done", (1,), 2))])

    def test_kinds_by_settings(self):
        text = "kind k <a u num v num > <!a v num u num >/set r new k 1 2 ./tell of u r/tell of v r"
        parts, log = self.checked(text, 1)
        self.assertEqual(parts, [(1, ("done", (2, 1), 3)), (2, ("done", (1, 2), 3))])
        self.assertEqual(log, [(3, 1), (3, 2), (3, 3)])
        text = "<a kind k u num v num >/<!a kind k w num v num u num >/set r new k 1 2 <!a 3 > ./tell of u r"
        self.assertEqual(self.checked(text, 1)[0], [(1, ("done", (3,), 2)), (2, ("done", (1,), 2))])

    def test_records_of_unlike_kinds(self):
        text = "kind k u num v num/kind p v num u num/set r new <a k > <!a p > 1 2 ./set r r/tell of u r/tell + of u r of v r"
        parts, log = self.checked(text, 1)
        self.assertEqual(parts, [(1, ("done", (2, 3), 4)), (2, ("done", (1, 3), 4))])
        self.assertEqual((times(log, 3), times(log, 4), times(log, 5)), ([3], [3], [3]))

    def test_numbers_and_truths_of_one_name(self):
        text = "set x <a 1 > <!a yes >/set y x/tell y/set x <a 0 > <!a no >/tell x/tell y"
        self.assertEqual(self.checked(text, 1)[0], [(1, ("done", ("yes", "no", "yes"), 6)), (2, ("done", (1, 0, 1), 6))])

    def test_rows_in_a_def_or_in_the_main(self):
        text = "<a def f num >/<a tell 7 > <!a tell 8 >/<a give 1 >/<a end >/tell <a do f . > <!a 2 >"
        parts, log = self.checked(text, 1)
        self.assertEqual(parts, [(1, ("done", (8, 2), 2)), (2, ("done", (7, 1), 3))])
        text = "<a def f num >/tell 7/<a give 1 >/<a end >/tell <a do f . > <!a 2 >/tell <a do f . > <!a 2 >"
        self.checked(text, 1)

    def test_other_settings_with_faults(self):
        # Setting 1 has a def and a kind twice, the first ones ahead of all; setting 3 can't be read.
        text = ("<&a!b kind k v num u num >/<&a!b def f num >/<&a!b give 9 >/<&a!b end >/<&ab end >/kind k u num v num/"
                "def f num/give 1/end/tell do f ./tell of u new k 1 2 ./<&a!b tell nothing >")
        rows, tree, sound = read(text, 2)
        self.assertEqual(sound, 5)
        self.assertEqual(self.check(rows, tree, 5, 400)[0], [(5, ("done", (1, 1), 3))])
        for mask in (1, 4):
            self.assertEqual(self.check(rows, tree, mask, 400)[0], [(mask, ("done", (1, 1), 3))])
        text = "<a tell nothing >/<b tell + 1 yes >/<b if 1 >/<b end >/<&ab tell do g . >/def f num/give 1/end/tell 5"
        rows, tree, sound = read(text, 2)
        self.assertEqual(sound, 1)
        self.assertEqual(self.check(rows, tree, 1, 400), ([(1, ("done", (5,), 1))], [(1, 8)]))

    def test_a_tree_kept_ahead(self):
        text = "set x <a 1 > <!a 0 >/<b if same x 1 >/tell x/<b end >/tell <a 3 > <!a x >"
        rows, tree, sound = read(text, 2)
        for mask in range(16):
            self.assertEqual(run_shared(kept_tree(tree, mask), mask, 400), run_shared(tree, mask, 400))


class Many(Checked):
    def masks(self, chance, sound):
        """All sound settings, some, one."""
        some = sound & chance.getrandbits(max(sound.bit_length(), 1))
        return [sound, some] + ([1 << chance.choice(held(sound))] if sound else [])

    def test_many_texts(self):
        seen = {}
        for n in range(4):
            chance = random.Random(n)
            unlike, left = 0, 0
            for count in range((40, 70, 60, 50)[n]):
                rows, tree, sound = read(run_text(chance, n, count % 3), n)
                left += sound != full(n)
                for mask in self.masks(chance, sound):
                    parts, log = self.check(rows, tree, mask, 400)
                    for there, value in parts:
                        seen[value[0]] = seen.get(value[0], 0) + 1
                    unlike += len({value[0] for there, value in parts}) > 1
                    most = max([value[2] for there, value in parts], default=0)
                    for fewer in {most, max(most - 1, 0), chance.randrange(most + 1), chance.randrange(400)}:
                        self.check(rows, tree, mask, fewer)
            if n > 0:
                self.assertGreater(min(unlike, left), 5, n)
        self.assertEqual([outcome for outcome in OUTCOMES if seen.get(outcome, 0) < 25], [], seen)

    def test_masks_of_one_text(self):
        chance = random.Random(33)
        for n in range(4):
            for count in range(5 if n < 3 else 1):
                rows, tree, sound = read(run_text(chance, n, count % 2), n)
                for mask in range(full(n) + 1):
                    if mask & sound == mask:
                        self.check(rows, tree, mask, 100)

    def test_all_numbers_of_steps(self):
        chance = random.Random(30)
        for n in (1, 2, 3):
            for count in range(4):
                rows, tree, sound = read(run_text(chance, n), n)
                for most in range(40):
                    self.check(rows, tree, sound, most)

    def test_more_switches(self):
        chance = random.Random(34)
        for n in (4, 5, 6):
            for count in range(4):
                rows, tree, sound = read(run_text(chance, n, count % 2), n)
                self.check(rows, tree, sound, 400)


class Own(Checked):
    TEXT = "kind k u num v num/def f num x k/give of u x/end/set i <a 1 > <!a 0 >/while less i 2/tell do f new k i 1 . ./set i + i 1/end/<b tell i >"

    def test_the_tree_stays(self):
        rows, tree, sound = read(self.TEXT, 2)
        self.assertEqual(sound, 15)
        before = copy.deepcopy(tree)
        for most in (0, 3, 400):
            for mask in (0, 1, 6, 15):
                run_shared(tree, mask, most)
                self.assertEqual(tree, before)

    def test_lists_told_and_changed_change_nothing(self):
        rows, tree, sound = read(self.TEXT, 2)
        due = run_shared(tree, 15, 400)
        parts, log = run_shared(tree, 15, 400)
        parts.clear()
        log.clear()
        self.assertEqual(run_shared(tree, 15, 400), due)
        self.assertEqual(due[0], [(1, ("done", (0, 1), 10)), (2, ("done", (1,), 6)), (4, ("done", (0, 1, 2), 11)), (8, ("done", (1, 2), 7))])
        parts, log = run_shared([], 3, 400)
        log.append((3, 0))
        parts.clear()
        self.assertEqual(run_shared([], 3, 400), ([(3, ("done", (), 0))], []))

    def test_what_is_done_to_the_tree_behind_the_call(self):
        rows, tree, sound = read(self.TEXT, 2)
        due = run_shared(copy.deepcopy(tree), 15, 400)
        told = run_shared(tree, 15, 400)
        tree[1][1][5].clear()
        tree.clear()
        self.assertEqual(told, due)

    def test_calls_of_python_within_one_another(self):
        text = ("def f num x num/while yes/while yes/while yes/give + 0 + 0 + 0 + 0 do f x ./end/end/end/give 0/end/"
                "while yes/while yes/while yes/while yes/tell + 0 + 0 + 0 + 0 do f <a 1 > <!a 2 > ./end/end/end/end")
        rows, tree, sound = read(text, 1)
        before = sys.getrecursionlimit()
        depth, frame = 0, sys._getframe()
        while frame:
            depth, frame = depth + 1, frame.f_back
        try:
            sys.setrecursionlimit(depth + 300)
            parts, log = run_shared(tree, sound, 400)
        finally:
            sys.setrecursionlimit(before)
        self.assertEqual(parts, [(3, ("deep", (), 29))])


if __name__ == "__main__":
    unittest.main()
