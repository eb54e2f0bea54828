"""Point 2 (the classes of refusals) and the interface of manymakes.errors."""

import unittest

from manymakes.errors import MakesError, NoForm, NoGroup, NoOrder, NoSet, NoWish, TooMany

REFUSALS = (NoWish, NoSet, NoOrder, NoGroup, TooMany, NoForm)


class Classes(unittest.TestCase):
    def test_any_refusal_is_a_value_error(self):
        self.assertEqual(MakesError.__bases__, (ValueError,))

    def test_each_stands_straight_under_makes_error(self):
        for one in REFUSALS:
            self.assertEqual(one.__bases__, (MakesError,), one)

    def test_none_stands_under_another_one(self):
        for one in REFUSALS:
            for other in REFUSALS:
                self.assertEqual(issubclass(one, other), one is other, (one, other))

    def test_each_bears_its_name(self):
        names = [one.__name__ for one in REFUSALS]
        self.assertEqual(names, ["NoWish", "NoSet", "NoOrder", "NoGroup", "TooMany", "NoForm"])


class Fields(unittest.TestCase):
    def test_at_of_no_group_and_too_many(self):
        for one in (NoGroup, TooMany):
            for at in (0, 7, 60):
                with self.assertRaises(one) as caught:
                    raise one(at)
                self.assertEqual(caught.exception.at, at)
            self.assertEqual(one(at=3).at, 3)

    def test_at_and_what_of_no_form(self):
        with self.assertRaises(NoForm) as caught:
            raise NoForm(4, "stray")
        self.assertEqual((caught.exception.at, caught.exception.what), (4, "stray"))
        named = NoForm(what="open", at=0)
        self.assertEqual((named.at, named.what), (0, "open"))

    def test_each_object_has_its_own_fields(self):
        first = NoForm(1, "form")
        second = NoForm(2, "place")
        self.assertEqual((first.at, first.what, second.at, second.what), (1, "form", 2, "place"))

    def test_the_fields_are_asked_for(self):
        for one in (NoGroup, TooMany, NoForm):
            with self.assertRaises(TypeError):
                one()
        with self.assertRaises(TypeError):
            NoForm(1)

    def test_the_others_are_raised_and_caught_by_name(self):
        for one in (NoWish, NoSet, NoOrder):
            with self.assertRaises(MakesError) as caught:
                raise one("words")
            self.assertIs(caught.exception.__class__, one)


if __name__ == "__main__":
    unittest.main()
