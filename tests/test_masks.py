"""Points 4 and 5: switches, settings, masks."""

import unittest

from manymakes.masks import every, has, how_many, least, settings, switch_mask


def mask_for(chosen):
    """A mask from its settings, added up one by one."""
    return sum(2 ** s for s in chosen)


class DocumentExamples(unittest.TestCase):
    def test_of_point_5(self):
        self.assertEqual(every(2), 15)
        self.assertEqual(switch_mask(0, 2), 10)
        self.assertEqual(switch_mask(1, 2), 12)

    def test_of_point_4(self):
        on = [has(switch_mask(k, 3), 6) for k in range(3)]
        self.assertEqual(on, [False, True, True])


class Made(unittest.TestCase):
    def test_every(self):
        for n in range(11):
            self.assertEqual(every(n), 2 ** (2 ** n) - 1)
            self.assertIs(every(n).__class__, int)

    def test_switch_mask(self):
        for n in range(11):
            for k in range(n):
                due = mask_for(s for s in range(2 ** n) if s // 2 ** k % 2 == 1)
                self.assertEqual(switch_mask(k, n), due, (k, n))
                self.assertIs(switch_mask(k, n).__class__, int)


class Asked(unittest.TestCase):
    def check(self, mask, chosen, n):
        """chosen: the settings of the mask, rising."""
        for s in range(2 ** n):
            self.assertIs(has(mask, s), s in chosen, (n, mask, s))
        self.assertEqual(settings(mask), chosen)
        self.assertEqual(how_many(mask), len(chosen))
        self.assertIs(how_many(mask).__class__, int)
        for s in settings(mask):
            self.assertIs(s.__class__, int)
        if chosen:
            self.assertEqual(least(mask), chosen[0])
            self.assertIs(least(mask).__class__, int)
        else:
            self.assertIsNone(least(mask))

    def places(self, n):
        """Settings to try: all of few, of many those at the ends and about the middle."""
        size = 2 ** n
        return sorted({s for s in range(size) if s < 8 or s >= size - 3 or abs(s - size // 2) < 2})

    def test_no_setting(self):
        for n in range(11):
            self.check(0, [], n)

    def test_all_settings(self):
        for n in range(11):
            self.check(every(n), list(range(2 ** n)), n)

    def test_one_alone(self):
        for n in range(11):
            for s in self.places(n):
                self.check(2 ** s, [s], n)

    def test_all_but_one(self):
        for n in range(11):
            for s in self.places(n):
                self.check(every(n) - 2 ** s, [t for t in range(2 ** n) if t != s], n)

    def test_every_mask_of_few_switches(self):
        for n in range(4):
            for mask in range(2 ** 2 ** n):
                self.check(mask, [s for s in range(2 ** n) if mask // 2 ** s % 2 == 1], n)

    def test_some_masks_of_many_switches(self):
        for n in range(4, 11):
            for step in (2, 3, 7):
                for start in (0, 1, 5):
                    chosen = list(range(start, 2 ** n, step))
                    self.check(mask_for(chosen), chosen, n)


class OwnLists(unittest.TestCase):
    def test_settings_are_a_new_list_each_time(self):
        for mask in (0, 1, 6, every(3), every(10)):
            first = settings(mask)
            second = settings(mask)
            self.assertIs(first.__class__, list)
            self.assertIsNot(first, second)
            first.append(-1)
            first.reverse()
            self.assertEqual(settings(mask), second)


if __name__ == "__main__":
    unittest.main()
