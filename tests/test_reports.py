"""Points 37 and 38, COUNTED of point 3, and of point 2 what holds for reports."""

import copy
import functools
import itertools
import random
import unittest

from manymakes.errors import NoForm, NoGroup, TooMany
from manymakes.kinds import plain_kinds
from manymakes.names import plain_names
from manymakes.plainread import read_plain
from manymakes.reports import dead_rows, faults_of, lonely_rows, sound_ones
from manymakes.texts import read_rows
from programs import (
    LETTERS, cut_by_hand, due_faults, full, grouped_row, held, kinds_text, mask_of, names_row, read_by_hand, run_text, shared_text,
)

WHATS = "form place stray open twice nokind nofunc count unset kind field truth tell give".split()


def some_rules(chance, n):
    """All settings, some, one and none."""
    return [full(n), chance.randrange(full(n) + 1), 1 << chance.randrange(2 ** n), 0]


def some_row(chance, word):
    """A row with faults of names; now and then it lacks a word, and so is of no form or does not end a block."""
    words = names_row(chance, word)
    return words[:-1] if chance.random() < 0.04 else words


def has_words(text, n, rule):
    """For each row of a text: whether it has plain words, and in which settings of the rule some of them stand."""
    return [(bool(read_by_hand(row, n)), [s for s in held(rule) if cut_by_hand(row, s)]) for row in text.split("\n")]


class Rows(unittest.TestCase):
    def check(self, text, n, rule):
        rows = read_rows(text, n)
        before = copy.deepcopy(rows)
        dead, lonely = dead_rows(rows, rule), lonely_rows(rows, rule)
        self.assertEqual(rows, before)
        found = has_words(text, n, rule)
        self.assertEqual(dead, [at for at, (words, some) in enumerate(found) if words and not some], (text, rule))
        self.assertEqual(lonely, [at for at, (words, some) in enumerate(found) if len(some) == 1], (text, rule))
        for told in (dead, lonely):
            self.assertIs(told.__class__, list)
            self.assertTrue(all(at.__class__ is int for at in told))
        return dead, lonely

    def test_by_hand(self):
        text = "x\n<a x >\n<&ab x >\n<0 x >\n\n<a > <b >\n<&ab x > <&a!b y >\n<&ab x > z\n<&ab x > <0 y >"
        for rule, dead, lonely in ((15, [3], [2, 8]), (7, [2, 3, 8], [1, 6]), (8, [3], [0, 1, 2, 6, 7, 8]),
                                   (4, [1, 2, 3, 6, 8], [0, 7]), (0, [0, 1, 2, 3, 6, 7, 8], []), (5, [1, 2, 3, 6, 8], [])):
            self.assertEqual(self.check(text, 2, rule), (dead, lonely), rule)

    def test_rows_without_plain_words(self):
        for text in ("", "\n\n", "<a >", "<0 >", "<1 <0 > >\n\n<a > <!a >"):
            for rule in range(4):
                self.assertEqual(self.check(text, 1, rule), ([], []))
        self.assertEqual((dead_rows([], 1), lonely_rows([], 1)), ([], []))

    def test_words_that_never_stand(self):
        for row in ("<0 x >", "<&a!a x y >", "<a <!a x > >", "<0 <1 x > > <^aa y >"):
            for rule in range(4):
                self.assertEqual(self.check(f"x\n{row}", 1, rule)[0], [1] if rule else [0, 1])

    def test_words_in_unlike_settings(self):
        # Two words that stand in one setting each: two settings have some, so the row is not lonely.
        self.assertEqual(self.check("<&ab x > <&!a!b y >", 2, 15), ([], []))
        self.assertEqual(self.check("<&ab x > <&!a!b y >", 2, 7), ([], [0]))
        self.assertEqual(self.check("<&ab x > <&ab y > <0 z >", 2, 15), ([], [0]))

    def test_all_rules_of_some_rows(self):
        parts = ("", "x", "<a x >", "<&ab x >", "<0 x >", "<&ab x > <&!a!b y >", "<^ab >", "<a <!b x > >")
        for some in itertools.product(parts, repeat=2):
            for rule in range(16):
                self.check("\n".join(some), 2, rule)

    def test_many_texts(self):
        for n in range(7):
            chance = random.Random(n)
            seen = [0, 0]
            for count in range((60, 100, 100, 80, 50, 30, 20)[n]):
                text = "\n".join(grouped_row(chance, n) for count in range(chance.randrange(1, 9)))
                for rule in some_rules(chance, n):
                    dead, lonely = self.check(text, n, rule)
                    if rule:
                        seen = [seen[0] + len(dead), seen[1] + len(lonely)]
            self.assertGreater(min(seen), 10, n)

    def test_ten_switches(self):
        text = "<" + "&" * 9 + LETTERS + " x >\n<j x >"
        self.assertEqual(self.check(text, 10, full(10)), ([], [0]))
        self.assertEqual(self.check(text, 10, full(10) >> 1), ([0], []))
        self.assertEqual(self.check(text, 10, 2 ** 513 - 1), ([0], [1]))

    def test_lists_of_their_own(self):
        rows = read_rows("<a x >\n<0 x >\n<a x >", 1)
        for tell, due in ((dead_rows, [1]), (lonely_rows, [0, 2])):
            told = tell(rows, 3)
            told.append(7)
            self.assertEqual(tell(rows, 3), due)
        told = dead_rows(rows, 3)
        rows.clear()
        self.assertEqual(told, [1])


def plain_faults(words):
    """The faults of plain rows as the plain reader and the plain lookers tell them."""
    try:
        tree = read_plain(words)
    except NoForm as refused:
        return [(refused.at, refused.what, "")]
    return plain_names(tree) or [(at, what, "") for at, what in plain_kinds(tree)]


@functools.lru_cache(1000)
def faults_at(text, s):
    """The faults of a text cut to a setting, once by hand and once as the plain ones tell them."""
    words = [cut_by_hand(row, s) for row in text.split("\n")]
    return due_faults(words), plain_faults(words)


class Faults(unittest.TestCase):
    def check(self, text, n, rule):
        """All that point 38 says of a text and a rule; tells the faults."""
        due, sound = {}, []
        for s in held(rule):
            faults, plain = faults_at(text, s)
            self.assertEqual(faults, plain, (text, s))
            if not faults:
                sound.append(s)
            for fault in faults:
                due.setdefault(fault, []).append(s)
        told = faults_of(text, n, rule)
        self.assertEqual(told, [fault + (len(some), some[0]) for fault, some in sorted(due.items())], (text, rule))
        self.assertIs(told.__class__, list)
        for fault in told:
            self.assertEqual((fault.__class__, [part.__class__ for part in fault]), (tuple, [int, str, str, int, int]))
        mask = sound_ones(text, n, rule)
        self.assertEqual((mask.__class__, mask), (int, mask_of(sound)), (text, rule))
        return told

    def checked(self, text, n, rule=None):
        """The faults of a text whose rows are parted by /."""
        return self.check(text.replace("/", "\n"), n, full(n) if rule is None else rule)

    def test_without_faults(self):
        for text in ("", "/", "tell 1", "<a tell 1 >/set x <a 1 > <!a yes >/tell x", "<a if yes >/tell 1/<a end >"):
            for rule in range(4):
                self.assertEqual(self.checked(text, 1, rule), [])
                self.assertEqual(sound_ones(text.replace("/", "\n"), 1, rule), rule)

    def test_one_of_each(self):
        for text, fault in (
                ("tell", (0, "form", "")), ("if yes/kind k/end", (1, "place", "")), ("tell 1/end", (1, "stray", "")),
                ("tell 1/if yes", (2, "open", "")), ("kind k/def k num/give 1/end", (1, "twice", "k")),
                ("set x new k .", (0, "nokind", "k")), ("tell do f .", (0, "nofunc", "f")),
                ("kind k u num/set x new k .", (1, "count", "k")), ("tell x", (0, "unset", "x")),
                ("tell + 1 yes", (0, "kind", "")), ("tell of u 1", (0, "field", "")), ("while 1/end", (0, "truth", "")),
                ("kind k/tell new k .", (1, "tell", "")), ("def f num/end", (0, "give", ""))):
            self.assertEqual(self.checked(text, 0), [fault + (1, 0)])
            self.assertEqual(self.checked(text, 3), [fault + (8, 0)])
            self.assertEqual(self.checked(text, 3, 0b10110000), [fault + (3, 4)])
            self.assertEqual(self.checked(text, 3, 0), [])
            rows = "/".join(f"<^ab {row} >" for row in text.split("/"))
            self.assertEqual(self.checked(rows, 2), [fault + (2, 1)])

    def test_how_many_and_the_least(self):
        text = "<a tell x >/<b tell y >/<&ab tell + 1 z >"
        self.assertEqual(self.checked(text, 2), [(0, "unset", "x", 2, 1), (1, "unset", "y", 2, 2), (2, "unset", "z", 1, 3)])
        self.assertEqual(self.checked(text, 2, 12), [(0, "unset", "x", 1, 3), (1, "unset", "y", 2, 2), (2, "unset", "z", 1, 3)])
        self.assertEqual(self.checked(text, 2, 1), [])
        self.assertEqual([sound_ones(text.replace("/", "\n"), 2, rule) for rule in (15, 14, 1)], [1, 0, 1])

    def test_each_look_in_the_settings_without_faults_ahead(self):
        # In setting 3 reading alone is told, in 1 names alone, in 2 and 0 kinds.
        text = "tell + yes 1/<a tell x >/<&ab end >"
        self.assertEqual(self.checked(text, 2), [(0, "kind", "", 2, 0), (1, "unset", "x", 1, 1), (2, "stray", "", 1, 3)])
        self.assertEqual(self.checked(text, 2, 8), [(2, "stray", "", 1, 3)])
        self.assertEqual(self.checked(text, 2, 10), [(1, "unset", "x", 1, 1), (2, "stray", "", 1, 3)])
        self.assertEqual(self.checked(text, 2, 14), [(0, "kind", "", 1, 2), (1, "unset", "x", 1, 1), (2, "stray", "", 1, 3)])

    def test_sorted_by_row_word_and_name(self):
        text = "<a tell + x + 1 y > <!a if + no 1 >/<!a end >/<b tell of u yes > <!b tell >/tell z"
        told = self.checked(text, 2)
        self.assertEqual([fault[:3] for fault in told], sorted(fault[:3] for fault in told))
        told = self.checked("tell + b + a do f .", 1)
        self.assertEqual(told, [(0, "nofunc", "f", 2, 0), (0, "unset", "a", 2, 0), (0, "unset", "b", 2, 0)])
        text = "<a if 1 > <!a tell yes + 1 >/<a end >/<b tell x > <!b set >"
        self.checked(text, 2)

    def test_a_fault_of_names_and_one_of_kinds_in_one_row(self):
        self.assertEqual(self.checked("tell <a x > <!a + 1 yes >", 1), [(0, "kind", "", 1, 0), (0, "unset", "x", 1, 1)])
        self.assertEqual(self.checked("<a tell x > <!a tell + 1 yes >/<&ab end >", 2),
                         [(0, "kind", "", 2, 0), (0, "unset", "x", 1, 1), (1, "stray", "", 1, 3)])

    def test_open_behind_the_last_row(self):
        self.assertEqual(self.checked("<a if yes >/tell 1/", 1), [(3, "open", "", 1, 1)])

    def test_all_rules_of_some_texts(self):
        chance = random.Random(38)
        for count in range(8):
            for text in (kinds_text(chance, 2), run_text(chance, 2, 3), shared_text(chance, 2, 8, some_row, 0.02)):
                for rule in range(16):
                    self.check(text, 2, rule)

    def test_many_texts(self):
        for n in range(7):
            chance = random.Random(n)
            seen, some, sound = {}, 0, 0
            for count in range((30, 25, 20, 15, 6, 3, 1)[n]):
                texts = (kinds_text(chance, n), run_text(chance, n, 1 + count % 3), shared_text(chance, n, 12, some_row, 0.02),
                         shared_text(chance, n, 4, names_row, 0.001), shared_text(chance, n, 4, names_row, 0.1))
                for text, rule in itertools.product(texts, some_rules(chance, n)):
                    for at, what, name, many, first in self.check(text, n, rule):
                        seen[what] = seen.get(what, 0) + 1
                        some += many < len(held(rule))
                    sound += sound_ones(text, n, rule) not in (0, rule)
            if n < 4:
                self.assertEqual([what for what in WHATS if not seen.get(what)], [], (n, seen))
            if 0 < n < 5:
                self.assertGreater(min(some, sound), 5, n)

    def test_lists_of_their_own(self):
        told = faults_of("tell x", 1, 3)
        told.clear()
        self.assertEqual(faults_of("tell x", 1, 3), [(0, "unset", "x", 2, 0)])
        faults_of("tell 1", 1, 3).append(1)
        self.assertEqual(faults_of("tell 1", 1, 3), [])


class Refused(unittest.TestCase):
    WIDE = "tell <a 1 > <b 2 > <c 3 > <d 4 > <e 5 >"

    def refuse(self, error, at, text, n, rule):
        for tell in (faults_of, sound_ones):
            with self.assertRaises(error) as caught:
                tell(text, n, rule)
            self.assertEqual((caught.exception.__class__, caught.exception.at), (error, at), text)

    def test_groups(self):
        for row in ("x  y", "<f x >", "x >", "<a x", "< x >"):
            for rule in (0, 1, full(5)):
                self.refuse(NoGroup, 0, row, 5, rule)
                self.refuse(NoGroup, 1, f"tell 1\n{row}\n>", 5, rule)
                # Ahead of rows with too many cuts, above it or below.
                self.refuse(NoGroup, 1, f"{self.WIDE}\n{row}", 5, rule)
                self.refuse(NoGroup, 0, f"{row}\n{self.WIDE}", 5, rule)

    def test_too_many_cuts(self):
        for above in range(3):
            text = "tell 1\n" * above + self.WIDE
            self.refuse(TooMany, above, text, 5, full(5))
            self.refuse(TooMany, above, text + "\n" + self.WIDE, 5, full(5))
            # Ahead of all reading: also where no setting could be read up to there.
            self.refuse(TooMany, above + 1, "end\n" + text, 5, full(5))
        self.refuse(TooMany, 0, self.WIDE, 5, 2 ** 17 - 1)

    def test_sixteen_cuts_by_the_rule(self):
        for rule in (2 ** 16 - 1, full(5) - (2 ** 16 - 1), 0, 1):
            self.assertEqual(len(held(rule)) - sum(many for at, what, name, many, first in faults_of(self.WIDE, 5, rule)),
                             len(held(sound_ones(self.WIDE, 5, rule))))
        self.assertEqual(faults_of(self.WIDE, 5, 2 ** 16 - 1), [(0, "form", "", 12, 0)])
        self.assertEqual(sound_ones(self.WIDE, 5, 2 ** 16 - 1), mask_of([1, 2, 4, 8]))


if __name__ == "__main__":
    unittest.main()
