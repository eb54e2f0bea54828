"""Points 27 and 28, and of point 2 what holds for parts."""

import copy
import itertools
import random
import unittest

from manymakes.parts import covered, kept_to, mapped, one_form, paired, put_over, value_at
from programs import full, held, mask_of, some_mask

# Some are alike in part: 1, the text 1 and tuples of them are unlike values.
VALUES = (
    0, 1, 2, -1, 10 ** 18 - 1, 10 ** 30, "", "0", "1", "yes", "no", "none", (), (0,), ("0",), (1, "1"), ("1", 1), ("k", 1, "yes"),
    ((),), ((1,), "1"), ("done", (1, "yes"), 3), ("done", (1, "yes"), 4), ("done", (), 0),
)


def form(values):
    """The parts of a dict of values by settings."""
    found = []
    for s in sorted(values):
        if values[s] not in [value for chosen, value in found]:
            found.append(([other for other in values if values[other] == values[s]], values[s]))
    return [(mask_of(chosen), value) for chosen, value in found]


def values_of(pairs):
    return {s: value for mask, value in pairs for s in held(mask)}


def some_values(chance, n, most):
    """Values for some settings, or all, or none; of few unlike ones or of many."""
    pool = [chance.choice(VALUES) for count in range(most)]
    return {s: chance.choice(pool) for s in held(some_mask(chance, n))}


def some_pairs(chance, values):
    """Tuples (mask, value), masks apart, some 0, with these values by settings, in any order."""
    pairs = [(0, chance.choice(VALUES)) for count in range(chance.randrange(3))]
    for mask, value in form(values):
        first = mask & chance.getrandbits(mask.bit_length())
        pairs += [(first, value), (mask ^ first, value)] if chance.random() < 0.5 else [(mask, value)]
    chance.shuffle(pairs)
    return pairs


def all_values(n, choice):
    """All dicts of values of the choice, in which None stands for no value."""
    for row in itertools.product(choice, repeat=2 ** n):
        yield {s: value for s, value in enumerate(row) if value is not None}


def kind_of(value):
    """Another value, the same one for many."""
    return "many" if isinstance(value, tuple) else len(str(value))


def both(one, other):
    return (one, other)


def alike(one, other):
    return "yes" if one == other else "no"


class Parts(unittest.TestCase):
    def check(self, parts, values):
        """Asks whether parts are those of the values, in the form of point 27."""
        self.assertIs(parts.__class__, list)
        found = 0
        for pair in parts:
            self.assertIs(pair.__class__, tuple)
            mask, value = pair
            self.assertIs(mask.__class__, int)
            self.assertNotEqual(mask, 0)
            self.assertEqual(found & mask, 0)
            found |= mask
        told = [value for mask, value in parts]
        self.assertEqual([value for place, value in enumerate(told) if value in told[:place]], [])
        firsts = [held(mask)[0] for mask, value in parts]
        self.assertEqual(firsts, sorted(firsts))
        self.assertEqual(values_of(parts), values)
        for s, value in values_of(parts).items():
            self.assertIs(value.__class__, values[s].__class__)
        self.assertEqual(parts, form(values))


class OneForm(Parts):
    def test_by_hand(self):
        self.assertEqual(one_form([]), [])
        self.assertEqual(one_form([(0, 1)]), [])
        self.assertEqual(one_form([(0, 1), (0, "x")]), [])
        self.assertEqual(one_form([(3, "x")]), [(3, "x")])
        self.assertEqual(one_form([(4, "x"), (3, "y")]), [(3, "y"), (4, "x")])
        self.assertEqual(one_form([(4, "x"), (2, "y"), (1, "x")]), [(5, "x"), (2, "y")])
        self.assertEqual(one_form([(8, "x"), (4, "y"), (2, "x"), (0, "z")]), [(10, "x"), (4, "y")])
        self.assertEqual(one_form([(8, "x"), (6, "y"), (1, "x")]), [(9, "x"), (6, "y")])
        self.assertEqual(one_form([(4, ("done", (1,), 2)), (1, ("done", (1,), 2)), (2, ("done", (1,), 3))]),
                         [(5, ("done", (1,), 2)), (2, ("done", (1,), 3))])

    def test_numbers_texts_and_tuples_are_unlike(self):
        self.assertEqual(one_form([(1, 1), (2, "1"), (4, (1,)), (8, ("1",)), (16, ((1,),)), (32, 1)]),
                         [(33, 1), (2, "1"), (4, (1,)), (8, ("1",)), (16, ((1,),))])
        self.assertEqual(one_form([(1, ()), (2, ""), (4, 0), (8, ())]), [(9, ()), (2, ""), (4, 0)])

    def test_many(self):
        for n in range(7):
            chance = random.Random(n)
            for count in range(150):
                values = some_values(chance, n, chance.choice((1, 2, 3, 8)))
                pairs = some_pairs(chance, values)
                before = copy.deepcopy(pairs)
                parts = one_form(pairs)
                self.check(parts, values)
                self.assertEqual(pairs, before)
                again = one_form(parts)
                self.assertEqual(again, parts)
                again.clear()
                self.check(parts, values)
                self.assertIsNot(one_form(parts), parts)

    def test_one_list_for_each_setting_s_value(self):
        chance = random.Random(27)
        for n in range(7):
            for count in range(30):
                values = some_values(chance, n, 3)
                self.assertEqual(one_form(some_pairs(chance, values)), one_form(some_pairs(chance, values)))

    def test_all_of_few(self):
        for n in range(3):
            for values in all_values(n, (None, 0, "0", (0,))):
                self.check(one_form([(1 << s, values[s]) for s in sorted(values, reverse=True)]), values)


class KeptTo(Parts):
    def test_by_hand(self):
        parts = [(9, "x"), (6, "y")]
        self.assertEqual(kept_to(parts, 15), parts)
        self.assertEqual(kept_to(parts, 0), [])
        self.assertEqual(kept_to(parts, 14), [(6, "y"), (8, "x")])
        self.assertEqual(kept_to(parts, 12), [(4, "y"), (8, "x")])
        self.assertEqual(kept_to(parts, 16), [])
        self.assertEqual(kept_to([], 15), [])

    def test_many(self):
        for n in range(7):
            chance = random.Random(n)
            for count in range(150):
                values = some_values(chance, n, 3)
                parts = form(values)
                mask = chance.randrange(full(n) + 1)
                kept = kept_to(parts, mask)
                self.check(kept, {s: values[s] for s in values if mask >> s & 1})
                kept.clear()
                self.assertEqual(parts, form(values))
                self.assertEqual(kept_to(parts, 0), [])
                whole = kept_to(parts, full(n))
                self.assertEqual(whole, parts)
                self.assertIsNot(whole, parts)

    def test_all_of_few(self):
        for values in all_values(2, (None, "x", "y")):
            for mask in range(16):
                self.check(kept_to(form(values), mask), {s: values[s] for s in values if mask >> s & 1})


class PutOver(Parts):
    def test_by_hand(self):
        first = [(9, "x"), (6, "y")]
        self.assertEqual(put_over(first, [(3, "z")]), [(3, "z"), (4, "y"), (8, "x")])
        self.assertEqual(put_over(first, [(1, "y")]), [(7, "y"), (8, "x")])
        self.assertEqual(put_over(first, []), first)
        self.assertEqual(put_over([], first), first)
        self.assertEqual(put_over([], []), [])
        self.assertEqual(put_over(first, [(16, "x")]), [(25, "x"), (6, "y")])
        self.assertEqual(put_over(first, [(15, 0)]), [(15, 0)])
        self.assertEqual(put_over([(15, 0)], first), first)

    def asked(self, first, others):
        one, two = form(first), form(others)
        told = put_over(one, two)
        self.check(told, {**first, **others})
        told.append((1, "more"))
        self.assertEqual((one, two), (form(first), form(others)))

    def test_many(self):
        for n in range(7):
            chance = random.Random(n)
            for count in range(150):
                self.asked(some_values(chance, n, 3), some_values(chance, n, 3))
                self.asked({s: chance.choice("xyz") for s in range(2 ** n)},
                           {s: chance.choice("xyz") for s in held(chance.randrange(full(n) + 1))})

    def test_all_of_few(self):
        dicts = list(all_values(2, (None, "x", "y")))
        for first in dicts:
            for others in dicts:
                self.asked(first, others)


class Mapped(Parts):
    def test_by_hand(self):
        self.assertEqual(mapped([(9, 1), (6, 2)], lambda value: value + 1), [(9, 2), (6, 3)])
        self.assertEqual(mapped([(9, 1), (6, 2)], lambda value: "x"), [(15, "x")])
        self.assertEqual(mapped([(9, 1), (2, 2), (4, 3)], lambda value: value % 2), [(13, 1), (2, 0)])
        self.assertEqual(mapped([(1, 1), (2, 2), (4, 3)], lambda value: -(value // 2)), [(1, 0), (6, -1)])
        self.assertEqual(mapped([], lambda value: 1), [])

    def test_it_is_asked_for_the_values_that_are_there(self):
        asked = []

        def noted(value):
            asked.append(value)
            return 0

        self.assertEqual(mapped([(9, 1), (6, "y")], noted), [(15, 0)])
        self.assertEqual(sorted(set(map(str, asked))), ["1", "y"])

    def test_many(self):
        for n in range(7):
            chance = random.Random(n)
            for count in range(150):
                values = some_values(chance, n, chance.choice((2, 8)))
                parts = form(values)
                for f in (kind_of, str, lambda value: (value, value), lambda value: 7):
                    told = mapped(parts, f)
                    self.check(told, {s: f(values[s]) for s in values})
                    told.clear()
                    self.assertEqual(parts, form(values))


class Paired(Parts):
    def test_by_hand(self):
        left, right = [(9, 1), (6, 2)], [(3, 10), (4, 20)]
        self.assertEqual(paired(left, right, lambda one, other: one + other), [(1, 11), (2, 12), (4, 22)])
        self.assertEqual(paired(left, right, lambda one, other: one), [(1, 1), (6, 2)])
        self.assertEqual(paired(left, right, lambda one, other: other), right)
        self.assertEqual(paired(left, right, lambda one, other: 0), [(7, 0)])
        self.assertEqual(paired(right, left, lambda one, other: one - other), [(1, 9), (2, 8), (4, 18)])
        self.assertEqual(paired(left, [], both), [])
        self.assertEqual(paired([], left, both), [])
        self.assertEqual(paired(left, [(48, 1)], both), [])

    def test_it_is_asked_for_values_that_come_together(self):
        asked = []

        def noted(one, other):
            asked.append((one, other))
            return 0

        paired([(1, "x"), (6, "y")], [(3, 1), (12, 2)], noted)
        self.assertEqual(sorted(set(asked)), [("x", 1), ("y", 1), ("y", 2)])

    def asked(self, left, right, f):
        one, two = form(left), form(right)
        told = paired(one, two, f)
        self.check(told, {s: f(left[s], right[s]) for s in left if s in right})
        told.clear()
        self.assertEqual((one, two), (form(left), form(right)))

    def test_many(self):
        for n in range(7):
            chance = random.Random(n)
            for count in range(150):
                left, right = some_values(chance, n, 3), some_values(chance, n, 4)
                for f in (both, alike, lambda one, other: kind_of(other), lambda one, other: "x"):
                    self.asked(left, right, f)

    def test_all_of_few(self):
        dicts = list(all_values(2, (None, "x", "y")))
        for left in dicts:
            for right in dicts:
                self.asked(left, right, alike)
                self.asked(left, right, both)


class Asked(unittest.TestCase):
    def test_value_at(self):
        parts = [(9, "x"), (6, 0), (32, ())]
        self.assertEqual([value_at(parts, s) for s in range(8)], ["x", 0, 0, "x", None, (), None, None])
        self.assertIsNone(value_at([], 0))

    def test_covered(self):
        self.assertEqual(covered([]), 0)
        self.assertEqual(covered([(9, "x"), (6, 0), (32, ())]), 47)

    def test_many(self):
        for n in range(7):
            chance = random.Random(n)
            for count in range(100):
                values = some_values(chance, n, 4)
                parts = form(values)
                self.assertEqual(covered(parts), mask_of(values))
                for s in range(2 ** n):
                    self.assertEqual(value_at(parts, s), values.get(s))
                    self.assertIs(value_at(parts, s).__class__, values.get(s).__class__)
                self.assertEqual(parts, form(values))


class Own(unittest.TestCase):
    """What is done behind a call to what was handed in or told changes nothing."""

    def test_lists_handed_in_and_changed_behind(self):
        for tell in (one_form, lambda one: kept_to(one, 15), lambda one: put_over(one, []), lambda one: put_over([], one),
                     lambda one: put_over(one, one), lambda one: mapped(one, lambda value: value),
                     lambda one: paired(one, one, lambda value, other: other)):
            parts = [(9, "x"), (6, "y")]
            told = tell(parts)
            parts.clear()
            self.assertEqual(told, [(9, "x"), (6, "y")])
            parts = [(9, "x"), (6, "y")]
            tell(parts).clear()
            self.assertEqual(parts, [(9, "x"), (6, "y")])
            self.assertEqual(tell(parts), parts)

    def test_lists_without_values(self):
        for tell in (one_form, lambda one: kept_to(one, 15), lambda one: put_over(one, []), lambda one: mapped(one, str),
                     lambda one: paired(one, [], alike)):
            told = tell([])
            told.append((1, "x"))
            self.assertEqual(tell([]), [])


if __name__ == "__main__":
    unittest.main()
