"""Points 1 and 3 over the whole program: what is told of all settings at once is, cut to a setting, what is told of its plain text."""

import itertools
import random
import unittest

from manymakes.cutting import cut_tree
from manymakes.errors import NoForm
from manymakes.joining import joined
from manymakes.kinds import plain_kinds, shared_kinds
from manymakes.names import plain_names, shared_names
from manymakes.parts import value_at
from manymakes.plainread import read_plain
from manymakes.plainrun import run_plain
from manymakes.reports import dead_rows, faults_of, lonely_rows, sound_ones
from manymakes.sharedread import read_shared
from manymakes.sharedrun import run_shared
from manymakes.texts import cut_rows, cut_text, read_rows
from manymakes.tidying import parted, tidied
from programs import Machine, due_faults, full, held, kinds_text, mask_of, names_row, run_text, shared_text, whole_cut

PROGRAM = (
    "def f num x num", "give * x x", "end", "set x 3", "set i 0", "while less i x", "tell do f i .", "set i + i 1", "end", "if same i 3",
    "tell yes", "else", "tell i", "end",
)
STAGES = ("reading", "names", "kinds", "run")


def some_rules(chance, n):
    """All settings, some, one and none."""
    return [full(n), chance.randrange(full(n) + 1), 1 << chance.randrange(2 ** n), 0]


def some_texts(chance, n, count):
    """Texts that can be run in most settings, in some, and texts with faults of all sorts."""
    return (run_text(chance, n), run_text(chance, n, 1 + count % 3), kinds_text(chance, n), shared_text(chance, n, 10, names_row, 0.05))


def at_setting(faults, s):
    """What is told of a setting, by tuples with masks ahead."""
    return [fault[1:] for fault in faults if fault[0] >> s & 1]


def without_faults(mask, faults):
    return mask_of([s for s in held(mask) if not at_setting(faults, s)])


def shared_answers(text, n, rule, most):
    """All that is told of a text for all settings of the rule at once."""
    tree, faults = read_shared(read_rows(text, n), rule)
    read = without_faults(rule, faults)
    names = shared_names(tree, read)
    named = without_faults(read, names)
    kinds = shared_kinds(tree, named)
    return tree, faults, names, kinds, run_shared(tree, without_faults(named, kinds), most)


class Whole(unittest.TestCase):
    def check_setting(self, text, rows, s, most, answers):
        """All that is told of one setting; tells the stage up to which its plain text comes."""
        tree, faults, names, kinds, (parts, log) = answers
        words = cut_rows(rows, s)
        self.assertEqual(words, [row.split() for row in whole_cut(text, s).split("\n")])
        told = at_setting(faults, s) + at_setting(names, s) + at_setting(kinds, s)
        self.assertEqual([tuple(fault) + ("",) * (3 - len(fault)) for fault in told], due_faults(words), text)
        if at_setting(faults, s):
            with self.assertRaises(NoForm) as caught:
                read_plain(words)
            self.assertEqual([(caught.exception.at, caught.exception.what)], at_setting(faults, s), text)
            return "reading"
        plain = read_plain(words)
        self.assertEqual(cut_tree(tree, s), plain, text)
        self.assertEqual(plain_names(plain), at_setting(names, s), text)
        if at_setting(names, s):
            return "names"
        self.assertEqual(plain_kinds(plain), at_setting(kinds, s), text)
        if at_setting(kinds, s):
            self.assertIsNone(value_at(parts, s))
            return "kinds"
        outcome, values, run = run_plain(plain, most)
        self.assertEqual((outcome, values, run), Machine(words, most).answer(), text)
        self.assertIn(outcome, ("done", "long", "deep", "unset"))
        self.assertEqual(value_at(parts, s), (outcome, values, len(run)), text)
        self.assertEqual([at for mask, at in log if mask >> s & 1], run, text)
        return "run"

    def check_reports(self, text, n, rule, answers, stages):
        tree, faults, names, kinds, run = answers
        self.assertEqual(sound_ones(text, n, rule), mask_of([s for s in stages if stages[s] == "run"]))
        told = [fault + ("",) * (4 - len(fault)) for fault in faults + names + kinds]
        due = sorted((at, what, name, len(held(mask)), held(mask)[0]) for mask, at, what, name in told)
        self.assertEqual(faults_of(text, n, rule), due)

    def check(self, text, n, rule, most):
        """The whole promise for one text, rule and bound; tells how many settings come to each stage."""
        answers = shared_answers(text, n, rule, most)
        rows = read_rows(text, n)
        stages = {s: self.check_setting(text, rows, s, most, answers) for s in held(rule)}
        self.check_reports(text, n, rule, answers, stages)
        self.check_tidied(text, n, rule, most, answers)
        return list(stages.values())

    def check_tidied(self, text, n, rule, most, answers):
        tidy = tidied(text, n, rule)
        self.assertEqual(shared_answers(tidy, n, rule, most), answers)
        self.assertEqual(faults_of(tidy, n, rule), faults_of(text, n, rule))
        self.assertEqual(lonely_rows(read_rows(tidy, n), rule), lonely_rows(read_rows(text, n), rule))
        # What stands nowhere is left out: so of a tidied text no row is dead.
        self.assertEqual(dead_rows(read_rows(tidy, n), rule), [])
        self.assertIsNone(parted(text, tidy, n, rule))
        # The same answers, and the same plain texts: so all that holds for the one text holds for the other.
        for s in held(rule):
            self.assertEqual(cut_text(tidy, n, s), whole_cut(text, s), text)

    def test_many_texts(self):
        for n in range(7):
            chance = random.Random(n)
            seen = []
            for count in range((15, 15, 12, 8, 4, 2, 1)[n]):
                for text in some_texts(chance, n, count):
                    for rule in some_rules(chance, n):
                        seen += self.check(text, n, rule, chance.choice((0, 7, 30, 100, 400)))
            if n < 5:
                self.assertEqual([stage for stage in STAGES if seen.count(stage) < 3], [], n)

    def test_all_rules(self):
        chance = random.Random(3)
        for count in range(3):
            for text in some_texts(chance, 2, count):
                for rule in range(16):
                    self.check(text, 2, rule, 60)


class Joined(unittest.TestCase):
    """Plain programs joined: each setting is told what is told of its own program, but for the numbers of rows."""

    def some_programs(self, chance):
        """A program for each setting of one or two switches, of at most sixty rows together: the same, but for some rows."""
        n = chance.choice((1, 2))
        texts = []
        for s in range(2 ** n):
            rows = [row if chance.random() < 0.9 else chance.choice(PROGRAM + ("", "set x 1", "tell y")) for row in PROGRAM]
            rows = [row for row in rows if chance.random() < 0.98]
            texts.append("\n".join(row if chance.random() < 0.95 else row.replace("3", "2") for row in rows))
        return texts, n

    def numbered(self, words):
        """By the numbers of the rows that have words, their numbers among those."""
        full_rows = [at for at, row in enumerate(words) if row]
        return {at: place for place, at in enumerate(full_rows + [len(words)])}

    def test_many_programs(self):
        chance = random.Random(34)
        stages = []
        for count in range(150):
            texts, n = self.some_programs(chance)
            text = joined(texts, n)
            tree, faults, names, kinds, (parts, log) = shared_answers(text, n, full(n), 400)
            for s, plain in enumerate(texts):
                words = [row.split() for row in plain.split("\n") if row]
                place = self.numbered(cut_rows(read_rows(text, n), s))
                told = at_setting(faults, s) + at_setting(names, s) + at_setting(kinds, s)
                told = [(place[fault[0]],) + fault[1:] + ("",) * (3 - len(fault)) for fault in told]
                self.assertEqual(told, due_faults(words), texts)
                stages.append("wrong" if told else "run")
                if not told:
                    outcome, values, rows = Machine(words, 400).answer()
                    self.assertEqual(value_at(parts, s), (outcome, values, len(rows)), texts)
                    self.assertEqual([place[at] for mask, at in log if mask >> s & 1], rows, texts)
        self.assertGreater(min(stages.count("wrong"), stages.count("run")), 20)


class Alike(unittest.TestCase):
    """Texts that are not parted by a rule are told the same by it."""

    def test_many_texts(self):
        chance = random.Random(36)
        alike = 0
        for n, count in itertools.product((1, 2, 3), range(10)):
            text = run_text(chance, n, count % 2)
            for rule in some_rules(chance, n):
                for other in (tidied(text, n, full(n)), tidied(text, n, chance.randrange(full(n) + 1)), tidied(text, n, 0)):
                    same = tidied(text, n, rule) == tidied(other, n, rule)
                    if parted(text, other, n, rule) is None:
                        alike += 1
                        self.assertEqual(shared_answers(text, n, rule, 50), shared_answers(other, n, rule, 50))
                    else:
                        self.assertFalse(same)
        self.assertGreater(alike, 100)


if __name__ == "__main__":
    unittest.main()
