"""Points 35 and 36, TIDIED and ALIKE of point 3, and of point 2 what holds for both."""

import itertools
import random
import unittest

from manymakes.errors import NoGroup, NoSet
from manymakes.texts import cut_text, read_rows
from manymakes.tidying import parted, tidied
from programs import full, grouped_row, held, read_by_hand, shown_by_hand, tidied_by_hand, whole_cut

NO_MASKS = (-1, -2, -2 ** 70, 2 ** 2000, True, False, None, "", "1", [1], (1,), {}, 1.0)
# Rows that are wrong over two switches.
WRONG_ROWS = ("x  y", " x", "x ", "<c x >", "< x >", "<ab x >", ">", "x >", "<a x", "<a <b x >", "<a " * 6 + "x" + " >" * 6)


def some_text(chance, n, most=14):
    return "\n".join(grouped_row(chance, n, most) for count in range(chance.randrange(1, 6)))


def some_rules(chance, n):
    """All settings, some, one and none."""
    return [full(n), chance.randrange(full(n) + 1), 1 << chance.randrange(2 ** n), 0]


def pieces(row):
    """The groups of a row and the words between them: (WISH or None, words); groups lie in no other."""
    found, wish = [], None
    for word in row.split(" ") if row else []:
        if word == ">":
            assert wish is not None, row
            wish = None
        elif word.startswith("<"):
            assert wish is None, row
            wish = word[1:]
            found.append((wish, []))
        else:
            if not found or found[-1][0] != wish:
                found.append((wish, []))
            found[-1][1].append(word)
    assert wish is None, row
    return found


class Tidied(unittest.TestCase):
    def check(self, text, n, rule):
        """All that point 35 says of one text and one rule; tells the tidied text."""
        told = tidied(text, n, rule)
        self.assertIs(told.__class__, str)
        rows, before = told.split("\n"), text.split("\n")
        self.assertEqual(len(rows), len(before), text)
        self.assertEqual(rows, [tidied_by_hand(row, n, rule) for row in before], (text, rule))
        for s in held(rule):
            self.assertEqual(whole_cut(told, s), whole_cut(text, s), (text, rule))
            self.assertEqual(cut_text(told, n, s), cut_text(text, n, s), (text, rule))
        for row in rows:
            masks = []
            for wish, words in pieces(row):
                self.assertNotEqual(words, [], (text, rule))
                mask = rule if wish is None else read_by_hand(f"<{wish} x >", n)[0][1]
                if wish is not None:
                    self.assertEqual(wish, shown_by_hand(mask, n), (text, rule))
                    self.assertTrue(mask not in (0, rule) and mask & rule == mask, (text, rule))
                masks.append(mask)
            self.assertFalse(any(one == other for one, other in zip(masks, masks[1:])), (text, rule))
        self.assertEqual(tidied(told, n, rule), told, (text, rule))
        return told

    def test_by_hand(self):
        for text, n, rule, due in (
                ("tell <a + 1 > x", 1, 3, "tell <?a10 + 1 > x"),
                ("tell <a + 1 > x", 1, 2, "tell + 1 x"),
                ("tell <a + 1 > x", 1, 1, "tell x"),
                ("tell <a + 1 > x", 1, 0, ""),
                ("<a x > <a y >", 1, 3, "<?a10 x y >"),
                ("<a x > <1 y > <a z >", 1, 3, "<?a10 x > y <?a10 z >"),
                ("<a x > <0 y > <a z >", 1, 3, "<?a10 x z >"),
                ("<a x > <!a y > <a z >", 1, 2, "x z"),
                ("<a <b x > y > <&ab z >", 2, 15, "<?a?b100 x > <?a10 y > <?a?b100 z >"),
                ("<a <b x > y > <&ab z >", 2, 12, "<?a?b100 x y z >"),
                ("<|ab x > <^ab y >", 2, 7, "<?a?b01?b10 x y >"),
                ("<|ab x > <^ab y >", 2, 6, "x y"),
                ("<!!a x >", 1, 3, "<?a10 x >"),
                ("<&11 x > <|00 y >", 0, 1, "x"),
                ("<&11 x > <|00 y >", 0, 0, ""),
                ("<a > x <b <1 > > y", 2, 15, "x y")):
            self.assertEqual(self.check(text, n, rule), due)

    def test_rows_without_words_stay(self):
        for text in ("", "\n", "\n\nx\n", "<a >\nx", "<0 x >\n\n<1 >"):
            for rule in range(4):
                self.assertEqual(self.check(text, 1, rule).count("\n"), text.count("\n"))

    def test_by_no_setting_all_rows_are_empty(self):
        for n in (0, 1, 2, 6, 10):
            for many in range(1, 6):
                self.assertEqual(self.check("\n".join(["x <1 y > z"] * many), n, 0), "\n" * (many - 1))

    def test_words_in_all_settings_of_the_rule(self):
        # a stands in all of rule 10, whatever else stands in more or fewer.
        self.assertEqual(self.check("<a x > <|ab y > z <&ab w >", 2, 10), "x y z <?a?b100 w >")
        self.assertEqual(self.check("<a x > <|ab y > z <&ab w >", 2, 8), "x y z w")

    def test_the_wish_has_settings_of_the_rule_alone(self):
        self.assertEqual(self.check("x <a y >", 2, 7), "x <?a?b010 y >")
        self.assertEqual(self.check("x <1 y > <!a z >", 2, 14), "x y <?a0?b10 z >")

    def test_many_words(self):
        letters = "abc"
        rows = [" ".join(f"<{letters[count % 3]} x{count} >" for count in range(33)),
                "<a " + " ".join(f"x{count}" for count in range(98)) + " >",
                " ".join(f"x{count} <!b y{count} >" for count in range(25))]
        for rule in (255, 254, 15, 240, 1, 0, 90):
            told = self.check("\n".join(rows), 3, rule)
        self.assertGreater(min(len(row.split(" ")) for row in self.check("\n".join(rows), 3, 255).split("\n")), 30)
        words = " ".join(f"<{letters[count % 3]} x >" for count in range(33)) + " <a z >"
        told = self.check(words, 3, 255)
        self.assertEqual(len(told.split(" ")), 102)

    def test_all_short_rows(self):
        parts = ("x", "<a x >", "<!a x >", "<0 x >", "<1 x >", "<a x <!a y > >", "<a >")
        for length in range(4):
            for some in itertools.product(parts, repeat=length):
                for rule in range(4):
                    self.check(" ".join(some), 1, rule)

    def test_all_rules(self):
        chance = random.Random(35)
        for count in range(60):
            text = some_text(chance, 2)
            for rule in range(16):
                self.check(text, 2, rule)

    def test_many_texts(self):
        for n in range(7):
            chance = random.Random(n)
            groups, fewer = 0, 0
            for count in range((60, 150, 150, 120, 60, 30, 20)[n]):
                text = some_text(chance, n, 30)
                for rule in some_rules(chance, n):
                    told = self.check(text, n, rule)
                    groups += "<" in told
                    fewer += told.count("<") < text.count("<")
            self.assertGreater(fewer, 10, n)
            if n > 0:
                self.assertGreater(groups, 10, n)

    def test_the_same_settings_the_same_text(self):
        # Unlike words for the same wishes come to one form.
        for one, other in (("<&ab x >", "<a <b x > >"), ("<|ab x >", "<!&!a!b x >"), ("<^ab x >", "<?a!bb x >"), ("<1 x >", "x")):
            for rule in range(16):
                self.assertEqual(self.check(one, 2, rule), self.check(other, 2, rule))

    def test_ten_switches(self):
        for rule in (full(10), full(10) - 1, 1 << 1023, 2 ** 700 - 2 ** 500):
            self.assertEqual(len(tidied("<^a^b^c^d^e^f^g^h^ij x > y\n<j z >", 10, rule).split("\n")), 2)
        self.assertEqual(tidied("<j z > <!!j y >", 10, full(10)), "<?j10 z y >")


class Parted(unittest.TestCase):
    def check(self, one, other, n, rule):
        unlike = [s for s in held(rule) if whole_cut(one, s) != whole_cut(other, s)]
        told = parted(one, other, n, rule)
        self.assertEqual(told, min(unlike, default=None), (one, other, rule))
        self.assertIn(told.__class__, (int, None.__class__))
        self.assertEqual(parted(other, one, n, rule), told)
        return told

    def test_by_hand(self):
        for one, other, n, rule, due in (
                ("x", "x", 1, 3, None),
                ("x", "y", 1, 3, 0),
                ("x", "y", 1, 2, 1),
                ("x", "y", 1, 0, None),
                ("<a x >", "x", 1, 3, 0),
                ("<a x >", "x", 1, 2, None),
                ("<a x > <b y >", "<a x >", 2, 15, 2),
                ("<a x > <b y >", "<a x >", 2, 11, 3),
                ("<a x > <b y >", "<a x >", 2, 3, None),
                ("x y", "y x", 0, 1, 0),
                ("x y", "x\ny", 0, 1, 0),
                ("x x", "x", 1, 3, 0),
                ("<a x > <!a x >", "x", 1, 3, None)):
            self.assertEqual(self.check(one, other, n, rule), due)

    def test_empty_rows_count(self):
        self.assertEqual(self.check("x", "x\n", 1, 3), 0)
        self.assertEqual(self.check("x", "\nx", 1, 2), 1)
        self.assertEqual(self.check("", "\n", 1, 3), 0)
        self.assertEqual(self.check("", "\n", 1, 0), None)
        self.assertEqual(self.check("", "<a >", 1, 3), None)
        self.assertEqual(self.check("\n", "<0 x >\n<1 >", 1, 3), None)
        self.assertEqual(self.check("<a x >\n<!a x >", "x\n", 1, 3), 0)
        self.assertEqual(self.check("<a x >\n<!a x >", "x\n", 1, 2), None)
        self.assertEqual(self.check("<a x >\n<!a x >", "\nx", 1, 3), 1)

    def test_unlike_numbers_of_rows(self):
        for one, other in itertools.product(range(4), range(4)):
            for rule in range(16):
                due = None if one == other or rule == 0 else held(rule)[0]
                self.assertEqual(self.check("\n" * one, "\n" * other, 2, rule), due)
                self.check("x" + "\nx" * one, "x" + "\n<a x >" * other, 2, rule)

    def test_one_setting_alone(self):
        for n in range(7):
            for s in range(2 ** n):
                one = "x y\nz"
                other = f"x <{shown_by_hand(full(n) - (1 << s), n)} y >\nz"
                self.assertEqual(self.check(one, other, n, full(n)), s)
                self.assertEqual(self.check(one, other, n, full(n) - (1 << s)), None)
                self.assertEqual(self.check(one, other, n, 1 << s), s)

    def test_many_texts(self):
        for n in range(7):
            chance = random.Random(36 + n)
            seen = {"first": 0, "later": 0, "alike": 0}
            for count in range((40, 100, 100, 80, 40, 30, 20)[n]):
                text = some_text(chance, n)
                rows = text.split("\n")
                rows[chance.randrange(len(rows))] = grouped_row(chance, n, 4)
                more = rows[:]
                more.insert(chance.randrange(len(rows)), "")
                few = text.split("\n")
                few[-1] = (few[-1] + " <" + shown_by_hand(chance.randrange(full(n) + 1), n) + " x >").strip()
                for rule in some_rules(chance, n):
                    for other in (text, "\n".join(rows), "\n".join(more), "\n".join(few), tidied(text, n, rule), tidied(text, n, full(n))):
                        told = self.check(text, other, n, rule)
                        seen["alike" if told is None else "first" if told == held(rule)[0] else "later"] += 1
                    self.assertIsNone(parted(text, tidied(text, n, rule), n, rule))
            self.assertGreater(min(seen["first"], seen["alike"]), 10, n)
            if n > 1:
                self.assertGreater(seen["later"], 10, n)


class Refused(unittest.TestCase):
    def no_set(self, call):
        with self.assertRaises(NoSet):
            call()

    def no_group(self, at, call):
        with self.assertRaises(NoGroup) as caught:
            call()
        self.assertEqual(caught.exception.at, at)

    def test_rules_that_are_no_masks(self):
        for n in (0, 1, 2, 3, 6, 10):
            for rule in NO_MASKS + (full(n) + 1, full(n) + 2, 2 * full(n) + 1):
                # Ahead of all else: also where the texts are wrong.
                for text in ("x", "", "x >", "<z"):
                    self.no_set(lambda: tidied(text, n, rule))
                    for other in ("x", "  "):
                        self.no_set(lambda: parted(text, other, n, rule))
            for rule in (0, 1, full(n)):
                self.assertEqual((tidied("", n, rule), parted("", "", n, rule)), ("", None))

    def test_texts_that_are_wrong(self):
        for row in WRONG_ROWS:
            for above in range(3):
                text = "x\n" * above + row
                for rule in (0, 1, 6, 15):
                    self.no_group(above, lambda: tidied(text, 2, rule))
                    self.no_group(above, lambda: tidied(text + "\nx", 2, rule))
                    self.no_group(above, lambda: tidied(text + "\n>", 2, rule))
                    self.no_group(above, lambda: parted(text, "x", 2, rule))
                    self.no_group(above, lambda: parted("x", text, 2, rule))

    def test_the_first_text_ahead_of_the_second(self):
        for row in WRONG_ROWS:
            for one, other in itertools.product(range(4), range(4)):
                for rule in (0, 15):
                    self.no_group(one, lambda: parted("x\n" * one + row, "x\n" * other + ">", 2, rule))
                    self.no_group(one, lambda: parted("x\n" * one + ">", "x\n" * other + row, 2, rule))

    def test_wrong_rows_that_no_answer_hangs_on(self):
        self.no_group(1, lambda: parted("x\ny", "z\n>", 1, 3))
        self.no_group(1, lambda: tidied("x\n<0 < > >", 1, 3))

    def test_wishes_of_more_switches(self):
        self.no_group(0, lambda: tidied("<a x >", 0, 1))
        self.assertEqual(tidied("<a x >", 1, 3), "<?a10 x >")


class Own(unittest.TestCase):
    def test_rows_that_were_read_stay(self):
        text = "<a x <b y > > z\n\n<!a w >"
        before = read_rows(text, 2)
        first = tidied(text, 2, 7)
        self.assertEqual(read_rows(text, 2), before)
        self.assertEqual(tidied(text, 2, 15).count("\n"), 2)
        self.assertEqual(tidied(text, 2, 7), first)


if __name__ == "__main__":
    unittest.main()
