"""Point 9, and of point 3 that numbers of one wood have one form."""

import itertools
import random
import unittest

from manymakes.errors import MakesError, NoWish
from manymakes.wishes import read_wish
from manymakes.wood import Wood

LETTERS = "abcdefghij"


def full(n):
    return 2 ** 2 ** n - 1


def on_mask(k, n):
    """The mask of the settings in which switch k is on, setting by setting."""
    return sum(2 ** s for s in range(2 ** n) if s // 2 ** k % 2 == 1)


def chosen_mask(k, on, off, n):
    return (on & on_mask(k, n)) | (off & (full(n) - on_mask(k, n)))


def hangs_on(mask, n):
    """The switches on which a mask hangs, rising, by point 8 word for word."""
    held = [mask // 2 ** s % 2 for s in range(2 ** n)]
    return [k for k in range(n) if any(held[s] != held[s ^ 2 ** k] for s in range(2 ** n))]


def put(mask, k, on, n):
    """The mask of the settings that are in this one once switch k is put on or off."""
    return sum(2 ** s for s in range(2 ** n) if mask // 2 ** (s | 2 ** k if on else s & ~2 ** k) % 2 == 1)


def some_masks(n, many):
    """Masks over n switches: edges, single switches, those of later switches alone, and some of all sorts."""
    chance = random.Random(n)
    out = [0, 1, full(n), full(n) - 1, 2 ** (2 ** n - 1), full(n) // 2]
    out.extend(on_mask(k, n) for k in range(n))
    out.extend(full(n) - on_mask(k, n) for k in range(n))
    for count in range(many):
        out.append(chance.randrange(2 ** 2 ** n))
        # Few switches that matter: the rest is skipped on the way to the top.
        mask = on_mask(chance.randrange(n), n) if n else 1
        for sign in range(3):
            other = on_mask(chance.randrange(n), n) if n else 0
            mask = chance.choice([mask & other, mask | other, mask ^ other, full(n) ^ mask])
        out.append(mask)
    return list(dict.fromkeys(out))


def grown_numbers(wood, n, many):
    """Numbers that came about by all ways of the wood, each with the mask that it is to have."""
    chance = random.Random(50 + n)
    found = [(0, 0), (1, full(n))]
    for k in range(n):
        found.append((wood.chosen(k, 1, 0), on_mask(k, n)))
    for count in range(many):
        (one, left), (other, right) = chance.choice(found), chance.choice(found)
        way = chance.choice(["both", "either", "unlike", "turned", "of_mask"] + ["chosen"] * min(n, 3))
        if way == "both":
            found.append((wood.both(one, other), left & right))
        elif way == "either":
            found.append((wood.either(one, other), left | right))
        elif way == "unlike":
            found.append((wood.unlike(one, other), left ^ right))
        elif way == "turned":
            found.append((wood.turned(one), full(n) - left))
        elif way == "of_mask":
            mask = chance.randrange(2 ** 2 ** n)
            found.append((wood.of_mask(mask), mask))
        else:
            k = chance.randrange(n)
            found.append((wood.chosen(k, one, other), chosen_mask(k, left, right, n)))
    return found


class Ends(unittest.TestCase):
    def test_0_never_holds_and_1_always(self):
        for n in range(11):
            wood = Wood(n)
            self.assertEqual((wood.mask_of(0), wood.mask_of(1)), (0, full(n)))
            self.assertEqual((wood.of_mask(0), wood.of_mask(full(n))), (0, 1))
            self.assertEqual((wood.count(0), wood.count(1)), (0, 2 ** n))
            self.assertEqual((wood.turned(0), wood.turned(1)), (1, 0))

    def test_every_way_to_0_and_1(self):
        for n in range(9):
            wood = Wood(n)
            for mask in some_masks(n, 4):
                one = wood.of_mask(mask)
                not_one = wood.turned(one)
                for never in (wood.both(one, not_one), wood.unlike(one, one), wood.both(one, 0)):
                    self.assertEqual(never, 0)
                for always in (wood.either(one, not_one), wood.unlike(one, not_one), wood.either(1, one)):
                    self.assertEqual(always, 1)
                for k in range(n):
                    self.assertEqual((wood.chosen(k, 0, 0), wood.chosen(k, 1, 1)), (0, 1))

    def test_no_branches_of_0_and_1(self):
        for n in range(11):
            wood = Wood(n)
            for number in (0, 1):
                with self.assertRaises(NoWish) as caught:
                    wood.branches(number)
                self.assertIsInstance(caught.exception, MakesError)


class Made(unittest.TestCase):
    def test_each_way_over_many_numbers(self):
        for n in range(9):
            wood = Wood(n)
            pairs = [(wood.of_mask(mask), mask) for mask in some_masks(n, 4 if n < 7 else 2)]
            for one, left in pairs:
                self.assertEqual(wood.mask_of(one), left)
                self.assertEqual(wood.mask_of(wood.turned(one)), full(n) - left)
            for (one, left), (other, right) in itertools.product(pairs, pairs):
                self.assertEqual(wood.mask_of(wood.both(one, other)), left & right)
                self.assertEqual(wood.mask_of(wood.either(one, other)), left | right)
                self.assertEqual(wood.mask_of(wood.unlike(one, other)), left ^ right)

    def test_chosen_by_any_switch(self):
        for n in range(9):
            wood = Wood(n)
            pairs = [(wood.of_mask(mask), mask) for mask in some_masks(n, 3 if n < 6 else 1)]
            for k in range(n):
                for (one, left), (other, right) in itertools.product(pairs, pairs):
                    self.assertEqual(wood.mask_of(wood.chosen(k, one, other)), chosen_mask(k, left, right, n))

    def test_chosen_by_a_switch_behind_the_others(self):
        for n in range(2, 9):
            wood = Wood(n)
            first = wood.chosen(0, 1, 0)
            last = wood.chosen(n - 1, first, wood.turned(first))
            due = read_wish("^a!" + LETTERS[n - 1], n)
            self.assertEqual(wood.mask_of(last), due)
            self.assertEqual(wood.branches(last)[0], 0)
            self.assertEqual(wood.of_mask(due), last)

    def test_as_the_signs_of_wishes(self):
        for n in range(1, 9):
            wood = Wood(n)
            texts = ["0", "1", "a", LETTERS[n - 1], "!a", "&a" + LETTERS[n - 1], "^a" + LETTERS[n - 1]]
            number = {text: wood.of_mask(read_wish(text, n)) for text in texts}
            for one, other in itertools.product(texts, texts):
                for sign, told in (("&", wood.both), ("|", wood.either), ("^", wood.unlike)):
                    self.assertEqual(wood.mask_of(told(number[one], number[other])), read_wish(sign + one + other, n))
                for k in range(n):
                    told = wood.mask_of(wood.chosen(k, number[one], number[other]))
                    self.assertEqual(told, read_wish("?" + LETTERS[k] + one + other, n))
                self.assertEqual(wood.mask_of(wood.turned(number[one])), read_wish("!" + one, n))

    def test_every_mask_of_few_switches(self):
        for n in range(4):
            wood = Wood(n)
            numbers = [wood.of_mask(mask) for mask in range(2 ** 2 ** n)]
            self.assertEqual(len(set(numbers)), len(numbers))
            self.assertEqual([wood.mask_of(number) for number in numbers], list(range(2 ** 2 ** n)))
            self.assertEqual([wood.of_mask(mask) for mask in range(2 ** 2 ** n)], numbers)

    def test_kinds_of_what_is_told(self):
        wood = Wood(3)
        a, b = wood.chosen(0, 1, 0), wood.chosen(1, 1, 0)
        told = (a, b, wood.both(a, b), wood.either(a, b), wood.unlike(a, b), wood.turned(a), wood.of_mask(77),
                wood.of_mask(0), wood.of_mask(255), wood.mask_of(a), wood.mask_of(0), wood.count(a), wood.count(0))
        for number in told:
            self.assertIs(number.__class__, int)


class OneForm(unittest.TestCase):
    def test_the_same_just_where_the_masks_are(self):
        for n in range(9):
            wood = Wood(n)
            by_mask, by_number = {}, {}
            for number, mask in grown_numbers(wood, n, 300):
                self.assertEqual(wood.mask_of(number), mask)
                self.assertEqual(by_mask.setdefault(mask, number), number)
                self.assertEqual(by_number.setdefault(number, mask), mask)
                self.assertEqual(wood.of_mask(wood.mask_of(number)), number)

    def test_whichever_way_they_came_about(self):
        wood = Wood(4)
        a, b, c, d = [wood.chosen(k, 1, 0) for k in range(4)]
        same = [
            (wood.both(a, b), wood.turned(wood.either(wood.turned(a), wood.turned(b)))),
            (wood.unlike(c, d), wood.either(wood.both(c, wood.turned(d)), wood.both(wood.turned(c), d))),
            (wood.chosen(3, a, b), wood.either(wood.both(d, a), wood.both(wood.turned(d), b))),
            (wood.chosen(0, b, b), b),
            (wood.chosen(2, wood.both(c, a), a), wood.chosen(2, a, a)),
            (wood.turned(wood.turned(wood.both(b, d))), wood.both(d, b)),
        ]
        for one, other in same:
            self.assertEqual(one, other)
        self.assertEqual(len({a, b, c, d, 0, 1}), 6)

    def test_what_was_told_stays_as_more_is_asked(self):
        wood = Wood(6)
        first = grown_numbers(wood, 6, 100)
        told = [(number, wood.mask_of(number), wood.count(number)) for number, mask in first]
        grown_numbers(wood, 6, 500)
        for number, mask, many in told:
            self.assertEqual((wood.mask_of(number), wood.count(number), wood.of_mask(mask)), (mask, many, number))


class Branches(unittest.TestCase):
    def check(self, wood, number, n):
        mask = wood.mask_of(number)
        told = wood.branches(number)
        self.assertIs(told.__class__, tuple)
        self.assertEqual([part.__class__ for part in told], [int, int, int])
        top, on, off = told
        self.assertEqual(top, hangs_on(mask, n)[0])
        self.assertNotEqual(on, off)
        self.assertEqual(wood.mask_of(on), put(mask, top, True, n))
        self.assertEqual(wood.mask_of(off), put(mask, top, False, n))
        for branch in (on, off):
            self.assertTrue(all(k > top for k in hangs_on(wood.mask_of(branch), n)))
        self.assertEqual(wood.chosen(top, on, off), number)
        self.assertEqual(wood.branches(number), told)

    def test_over_many_numbers(self):
        for n in range(1, 9):
            wood = Wood(n)
            numbers = [wood.of_mask(mask) for mask in some_masks(n, 8)]
            numbers.extend(number for number, mask in grown_numbers(wood, n, 30))
            for number in numbers:
                if number not in (0, 1):
                    self.check(wood, number, n)

    def test_every_number_of_few_switches(self):
        for n in (1, 2, 3):
            wood = Wood(n)
            for mask in range(1, full(n)):
                self.check(wood, wood.of_mask(mask), n)

    def test_down_to_the_ends(self):
        wood = Wood(8)
        chance = random.Random(3)
        for count in range(20):
            number = wood.of_mask(chance.randrange(2 ** 256))
            last = -1
            while number not in (0, 1):
                top, on, off = wood.branches(number)
                self.assertGreater(top, last)
                last, number = top, chance.choice([on, off])

    def test_of_single_switches(self):
        for n in range(1, 11):
            wood = Wood(n)
            for k in range(n):
                self.assertEqual(wood.branches(wood.chosen(k, 1, 0)), (k, 1, 0))
                self.assertEqual(wood.branches(wood.chosen(k, 0, 1)), (k, 0, 1))

    def test_a_refusal_changes_nothing(self):
        wood = Wood(2)
        a, b = wood.chosen(0, 1, 0), wood.chosen(1, 1, 0)
        for number in (0, 1):
            with self.assertRaises(NoWish):
                wood.branches(number)
        self.assertEqual((wood.mask_of(0), wood.mask_of(1), wood.mask_of(a), wood.mask_of(b)), (0, 15, 10, 12))
        self.assertEqual((wood.branches(wood.both(a, b)), wood.of_mask(8)), ((0, b, 0), wood.both(a, b)))


class Counted(unittest.TestCase):
    def test_how_many_settings(self):
        for n in range(11):
            wood = Wood(n)
            for mask in some_masks(n, 4):
                self.assertEqual(wood.count(wood.of_mask(mask)), bin(mask).count("1"))

    def test_settings_of_switches_it_does_not_hang_on(self):
        for n in range(1, 11):
            wood = Wood(n)
            for k in range(n):
                self.assertEqual(wood.count(wood.chosen(k, 1, 0)), 2 ** (n - 1))


class SideBySide(unittest.TestCase):
    def test_two_woods(self):
        for n, m in ((3, 3), (2, 5), (0, 4), (8, 8)):
            one, other = Wood(n), Wood(m)
            alone = Wood(n)
            due = [(number, alone.mask_of(number)) for number, mask in grown_numbers(alone, n, 60)]
            told = []
            grown_numbers(other, m, 17)
            for number, mask in grown_numbers(one, n, 60):
                other.of_mask((mask + 5) % 2 ** 2 ** m)
                told.append((number, one.mask_of(number)))
            grown_numbers(other, m, 90)
            self.assertEqual(told, due)
            for number, mask in told:
                self.assertEqual((one.mask_of(number), one.of_mask(mask)), (mask, number))


if __name__ == "__main__":
    unittest.main()
