"""Points 6, 7, 8, and of point 3 that shown wishes have one form."""

import itertools
import random
import unittest

from manymakes.errors import NoWish
from manymakes.masks import every, switch_mask
from manymakes.wishes import Wish, parse_wish, read_wish, shown_wish
from programs import LETTERS, shown_by_hand


def is_on(letter, s):
    return s // 2 ** LETTERS.index(letter) % 2 == 1


def mask_where(holds, n):
    """The mask of the settings of n switches for which a function tells True."""
    return sum(2 ** s for s in range(2 ** n) if holds(s))


# A wish of these tests is a pair: its text, and a function that tells for a setting whether it is to hold.

def always():
    return "1", lambda s: True


def never():
    return "0", lambda s: False


def letter(sign):
    return sign, lambda s: is_on(sign, s)


def turned(one):
    return "!" + one[0], lambda s: not one[1](s)


def both(one, other):
    return "&" + one[0] + other[0], lambda s: one[1](s) and other[1](s)


def either(one, other):
    return "|" + one[0] + other[0], lambda s: one[1](s) or other[1](s)


def unlike(one, other):
    return "^" + one[0] + other[0], lambda s: one[1](s) != other[1](s)


def chosen(sign, on, off):
    return "?" + sign + on[0] + off[0], lambda s: on[1](s) if is_on(sign, s) else off[1](s)


def leaves(n):
    return [always(), never()] + [letter(sign) for sign in LETTERS[:n]]


def grown(ones, n):
    """One wish of each form over n switches, with each choice of the given ones within."""
    out = [turned(one) for one in ones]
    for one, other in itertools.product(ones, ones):
        out.extend([both(one, other), either(one, other), unlike(one, other)])
        out.extend(chosen(sign, one, other) for sign in LETTERS[:n])
    return out


def any_wish(chance, n, deep):
    """Some wish over n switches, nested at most so deep."""
    if deep == 1 or chance.random() < 0.1:
        return chance.choice(leaves(n))
    one = any_wish(chance, n, deep - 1)
    form = chance.choice("!&|^?")
    if form == "!":
        return turned(one)
    other = any_wish(chance, n, deep - 1)
    if form == "?" and n > 0:
        return chosen(chance.choice(LETTERS[:n]), one, other)
    return chance.choice([both, either, unlike])(one, other)


def some_masks(n, many):
    """Masks over n switches: edges, single switches, and some of all sorts."""
    chance = random.Random(100 + n)
    out = [0, 1, every(n), every(n) - 1, 2 ** (2 ** n - 1), every(n) // 2]
    out.extend(switch_mask(k, n) for k in range(n))
    out.extend(chance.randrange(2 ** 2 ** n) for count in range(many))
    out.extend(mask_where(any_wish(chance, n, 5)[1], n) for count in range(many))
    return out


class Told(unittest.TestCase):
    def check(self, wish, n):
        text, holds = wish
        due = mask_where(holds, n)
        read = parse_wish(text, n)
        self.assertIsInstance(read, Wish)
        self.assertEqual(read.signs(), text)
        self.assertEqual(read_wish(text, n), due, (text, n))
        self.assertIs(read_wish(text, n).__class__, int)
        self.assertEqual(read.mask(n), due, (text, n))
        self.assertIs(read.mask(n).__class__, int)
        for s in range(2 ** n):
            self.assertIs(read.holds(s), holds(s), (text, n, s))

    def test_document_example(self):
        for text in ("?a!b0", "&a!b"):
            for n in (2, 3, 10):
                self.check((text, lambda s: is_on("a", s) and not is_on("b", s)), n)
        self.assertEqual(read_wish("?a!b0", 2), 2)
        self.assertEqual(read_wish("&a!b", 2), 2)

    def test_one_sign(self):
        for n in range(11):
            for wish in leaves(n):
                self.check(wish, n)

    def test_each_form_with_single_signs_within(self):
        for n in (0, 1, 2, 3, 5):
            for wish in grown(leaves(n), n):
                self.check(wish, n)

    def test_each_form_over_all_letters(self):
        for n in (7, 10):
            first, last = letter("a"), letter(LETTERS[n - 1])
            for one, other in ((first, last), (last, first)):
                for wish in (turned(one), both(one, other), either(one, other), unlike(one, other),
                             chosen(one[0], other, turned(other)), chosen(LETTERS[n // 2], one, other)):
                    self.check(wish, n)

    def test_each_form_within_each_form(self):
        for n in (0, 1):
            for wish in grown(leaves(n) + grown(leaves(n), n), n):
                self.check(wish, n)

    def test_some_nested_ones(self):
        chance = random.Random(6)
        for n in range(11):
            for count in range(60 if n < 7 else 6):
                self.check(any_wish(chance, n, 7), n)

    def test_sixty_deep(self):
        for n in (1, 2, 10):
            wish = letter(LETTERS[n - 1])
            for count in range(59):
                forms = (turned, lambda one: both(always(), one), lambda one: unlike(one, letter("a")),
                         lambda one: chosen("a", one, never()), lambda one: either(letter("a"), one))
                wish = forms[count % 5](wish)
            self.check(wish, n)

    def test_four_thousand_signs(self):
        # Put together in pairs, so that so long a text is but twelve deep.
        ones = [letter(LETTERS[at % 10]) for at in range(2000)]
        while len(ones) > 1:
            join = both if len(ones) in (500, 32) else unlike
            ones = [join(*ones[at:at + 2]) if at + 1 < len(ones) else ones[at] for at in range(0, len(ones), 2)]
        self.assertEqual(len(ones[0][0]), 3999)
        read = parse_wish(ones[0][0], 10)
        self.assertEqual(read.mask(10), mask_where(ones[0][1], 10))
        for s in (0, 1, 511, 700, 1023):
            self.assertIs(read.holds(s), ones[0][1](s))

    def test_what_is_asked_again_is_told_again(self):
        read = parse_wish("?a!b0", 2)
        other = parse_wish("|ab", 2)
        for count in range(2):
            self.assertEqual((read.mask(2), read.holds(1), read.holds(3), read.signs()), (2, True, False, "?a!b0"))
            self.assertEqual((other.mask(2), other.holds(1), other.holds(0), other.signs()), (14, True, False, "|ab"))


def all_wishes(n, most):
    """All texts of at most so many signs that are WISHes over n switches, by the forms of point 6."""
    letters = LETTERS[:n]
    by_length = {1: ["0", "1"] + list(letters)}
    for length in range(2, most + 1):
        found = ["!" + one for one in by_length[length - 1]]
        for ahead in range(1, length - 1):
            behind = length - 1 - ahead
            for one, other in itertools.product(by_length[ahead], by_length[behind]):
                found.extend(sign + one + other for sign in "&|^")
        for ahead in range(1, length - 2):
            behind = length - 2 - ahead
            for one, other in itertools.product(by_length[ahead], by_length[behind]):
                found.extend("?" + sign + one + other for sign in letters)
        by_length[length] = found
    return {text for found in by_length.values() for text in found}


class Refused(unittest.TestCase):
    def refuse(self, text, n):
        for ask in (parse_wish, read_wish):
            with self.assertRaises(NoWish, msg=(text, n)):
                ask(text, n)

    def accepted(self, text, n):
        answers = []
        for ask in (parse_wish, read_wish):
            try:
                ask(text, n)
                answers.append(True)
            except NoWish:
                answers.append(False)
        self.assertEqual(answers[0], answers[1], (text, n))
        return answers[0]

    def test_text_without_signs(self):
        for n in range(11):
            self.refuse("", n)

    def test_cut_short(self):
        whole = ("!a", "&ab", "|a0", "^1b", "?a!b0", "?b?a01!a", "&|ab^!ab", "?a?b01?b10", "!!!!1")
        for text in whole:
            for n in (2, 3, 10):
                self.assertTrue(self.accepted(text, n))
                for end in range(len(text)):
                    self.refuse(text[:end], n)

    def test_signs_left_over_behind(self):
        for text in ("0", "1", "a", "!a", "&ab", "?a!b0", "^!a|0b"):
            for more in ("0", "1", "a", "b", "!", "!a", "&", "?", "?a10", "&ab", " ", "\n", ">"):
                for n in (2, 10):
                    self.refuse(text + more, n)

    def test_letters_beyond_the_switches(self):
        for n in range(11):
            for sign in "abcdefghijklmnopqrstuvwxyz"[n:]:
                for text in (sign, "!" + sign, "&1" + sign, "|" + sign + "0", "^" + sign + sign,
                             "?" + sign + "10", "?" + sign + "00"):
                    self.refuse(text, n)
                if n > 0:
                    self.refuse("?a" + sign + "0", n)
                    self.refuse("?a1" + sign, n)

    def test_no_letter_behind_the_question(self):
        for text in ("?", "?a", "?a1", "?010", "?110", "?!a10", "?&ab10", "??a1010", "?A10", "? 10", "?&10"):
            self.refuse(text, 2)

    def test_any_other_sign(self):
        signs = [chr(code) for code in range(127) if chr(code) not in "01abcdefghij!&|^?"]
        self.assertIn("2", signs)
        for sign in signs:
            for text in (sign, sign + "a", "a" + sign, "!" + sign, "&a" + sign, "|" + sign + "b", "?a" + sign + "b",
                         "?ab" + sign, "?" + sign + "ab", sign + "ab", "!" + sign + "a"):
                for n in (2, 10):
                    self.refuse(text, n)

    def test_all_short_texts(self):
        for signs, n, most in (("01ab!&|^?cA2 ", 0, 4), ("01ab!&|^?cA2 ", 1, 4), ("01ab!&|^?cA2 ", 2, 4),
                               ("0ab&?!", 1, 6), ("1ab^?", 2, 7)):
            due = all_wishes(n, most)
            for length in range(most + 1):
                for text in map("".join, itertools.product(signs, repeat=length)):
                    self.assertEqual(self.accepted(text, n), text in due, (text, n))

    def test_a_refusal_changes_nothing(self):
        read = parse_wish("&ab", 2)
        self.refuse("&a", 2)
        self.refuse("&abb", 2)
        self.assertEqual((read.signs(), read.mask(2), read.holds(3)), ("&ab", 8, True))
        self.assertEqual(read_wish("&ab", 2), 8)


class Shown(unittest.TestCase):
    def test_document_examples(self):
        self.assertEqual(shown_wish(8, 2), "?a?b100")
        self.assertEqual(shown_wish(6, 2), "?a?b01?b10")

    def test_no_setting_and_all(self):
        for n in range(11):
            self.assertEqual(shown_wish(0, n), "0")
            self.assertEqual(shown_wish(every(n), n), "1")

    def test_one_switch(self):
        for n in range(11):
            for k in range(n):
                self.assertEqual(shown_wish(switch_mask(k, n), n), "?" + LETTERS[k] + "10")
                self.assertEqual(shown_wish(every(n) - switch_mask(k, n), n), "?" + LETTERS[k] + "01")

    def test_every_mask_over_few_switches(self):
        for n in range(4):
            shown = [shown_wish(mask, n) for mask in range(2 ** 2 ** n)]
            self.assertEqual(len(set(shown)), len(shown))
            for mask, text in enumerate(shown):
                self.assertEqual(text, shown_by_hand(mask, n))
                self.assertEqual(read_wish(text, n), mask)

    def test_some_masks_over_many_switches(self):
        for n in range(4, 11):
            masks = some_masks(n, 40 if n < 8 else 3)
            shown = {}
            for mask in masks:
                text = shown_wish(mask, n)
                self.assertEqual(text, shown_by_hand(mask, n))
                self.assertEqual(read_wish(text, n), mask)
                shown[text] = mask
            self.assertEqual(len(shown), len(set(masks)))

    def test_shown_alike_just_where_they_hold_in_the_same_settings(self):
        for n in (0, 1, 2):
            wishes = leaves(n) + grown(leaves(n), n)
            for one, other in itertools.product(wishes, wishes):
                same = all(one[1](s) == other[1](s) for s in range(2 ** n))
                alike = shown_wish(read_wish(one[0], n), n) == shown_wish(read_wish(other[0], n), n)
                self.assertEqual(alike, same, (one[0], other[0], n))

    def test_what_is_shown_is_shown_again_the_same(self):
        chance = random.Random(9)
        for n in range(9):
            for count in range(10):
                shown = shown_wish(read_wish(any_wish(chance, n, 6)[0], n), n)
                self.assertEqual(shown_wish(parse_wish(shown, n).mask(n), n), shown)


if __name__ == "__main__":
    unittest.main()
