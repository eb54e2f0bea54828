"""Points 10 to 14, and of point 2 that what is handed in stays and what is told is the asker's own."""

import copy
import itertools
import random
import unittest

from manymakes.errors import NoGroup, NoSet, TooMany
from manymakes.masks import settings
from manymakes.texts import cut_rows, cut_text, read_rows, variants
from programs import LETTERS, cut_by_hand, full, grouped_row, read_by_hand

EXAMPLE = "tell <a + 1 > x"
NO_SETTINGS = (-1, -2 ** 70, 10 ** 5000, True, False, "0", "", None, [0], (0,), {}, 0.0, 1.5)


def some_texts(n, many):
    chance = random.Random(n)
    return ["\n".join(grouped_row(chance, n) for count in range(chance.randrange(1, 6))) for again in range(many)]


class DocumentExample(unittest.TestCase):
    def test_the_row(self):
        self.assertEqual(read_rows(EXAMPLE, 1), [[("tell", 3), ("+", 2), ("1", 2), ("x", 3)]])

    def test_both_cuts(self):
        rows = read_rows(EXAMPLE, 1)
        self.assertEqual((cut_text(EXAMPLE, 1, 0), cut_text(EXAMPLE, 1, 1)), ("tell x", "tell + 1 x"))
        self.assertEqual((cut_rows(rows, 0), cut_rows(rows, 1)), ([["tell", "x"]], [["tell", "+", "1", "x"]]))

    def test_the_variants(self):
        row = read_rows(EXAMPLE, 1)[0]
        self.assertEqual(variants(row, 3), [(1, ("tell", "x")), (2, ("tell", "+", "1", "x"))])


class RowsRead(unittest.TestCase):
    def test_text_without_signs(self):
        for n in range(11):
            self.assertEqual(read_rows("", n), [[]])

    def test_rows_without_words(self):
        for text in ("\n", "\n\n", "x\n", "\nx", "x\n\ny", "\n\n\nx\n"):
            due = [[("x", 3)] if row == "x" else [("y", 3)] if row == "y" else [] for row in text.split("\n")]
            self.assertEqual(read_rows(text, 1), due)

    def test_plain_words_without_groups(self):
        for n in range(11):
            self.assertEqual(read_rows("set x\n+ 1 2\n\nx", n), [
                [("set", full(n)), ("x", full(n))], [("+", full(n)), ("1", full(n)), ("2", full(n))], [], [("x", full(n))]])

    def test_every_sign_in_a_word(self):
        signs = [chr(code) for code in range(33, 127) if chr(code) not in "%<>"]
        for sign in signs:
            for word in (sign, sign + "x", "x" + sign, sign + sign, sign + "<", sign + ">", ">" + sign, sign + "<a"):
                self.assertEqual(read_rows("<a " + word + " >", 1), [[(word, 2)]], word)
        for word in (">>", ">>>", "><", "><a", ">a", "a>", "x<1", "=<"):
            self.assertEqual(read_rows(word + " <0 " + word + " >", 1), [[(word, 3), (word, 0)]], word)

    def test_one_group_for_each_switch(self):
        for n in range(11):
            for k, letter in enumerate(LETTERS[:n]):
                due = sum(2 ** s for s in range(2 ** n) if s // 2 ** k % 2 == 1)
                self.assertEqual(read_rows(f"x <{letter} y > z", n), [[("x", full(n)), ("y", due), ("z", full(n))]])
                self.assertEqual(read_rows(f"<!{letter} y >", n), [[("y", full(n) - due)]])

    def test_groups_behind_one_another(self):
        self.assertEqual(read_rows("<a x > <b y > <a z >", 2), [[("x", 10), ("y", 12), ("z", 10)]])
        self.assertEqual(read_rows("<a x >\n<b y >", 2), [[("x", 10)], [("y", 12)]])

    def test_a_word_under_several_groups(self):
        self.assertEqual(read_rows("<a x <b y > z > w", 2), [[("x", 10), ("y", 8), ("z", 10), ("w", 15)]])
        self.assertEqual(read_rows("<|ab x <!a y <b z > > >", 2), [[("x", 14), ("y", 4), ("z", 4)]])
        self.assertEqual(read_rows("<1 x <?a!b0 y > >", 2), [[("x", 15), ("y", 2)]])

    def test_words_that_stand_in_no_setting(self):
        for n in range(11):
            self.assertEqual(read_rows("<0 x <1 y > > z", n), [[("x", 0), ("y", 0), ("z", full(n))]])
        self.assertEqual(read_rows("<a <!a x y > >", 1), [[("x", 0), ("y", 0)]])

    def test_groups_without_words(self):
        for text in ("<a >", "<a > <b >", "<a <b > >", "<0 <1 <a <b <0 > > > > >"):
            self.assertEqual(read_rows(text, 2), [[]])
        self.assertEqual(read_rows("x <a > y <a <b > >", 2), [[("x", 15), ("y", 15)]])

    def test_up_to_five_deep(self):
        for deep in range(6):
            text = " ".join(f"<{letter} {place}" for place, letter in enumerate(LETTERS[:deep])) + " >" * deep
            text = text.strip()
            due = [(str(place), sum(2 ** s for s in range(2 ** 5) if s % 2 ** (place + 1) == 2 ** (place + 1) - 1))
                   for place in range(deep)]
            self.assertEqual(read_rows(text, 5), [due], text)
        twice = "<a <b <c <d <e x > > > > > <e <d <c <b <a x > > > > >"
        self.assertEqual(read_rows(twice, 5), [[("x", 2 ** 31), ("x", 2 ** 31)]])
        self.assertEqual(read_rows("<a <b <c <d <e > <e x > > > > >", 5), [[("x", 2 ** 31)]])

    def test_some_texts(self):
        for n in range(11):
            for text in some_texts(n, 60 if n < 7 else 8):
                told = read_rows(text, n)
                self.assertEqual(told, [read_by_hand(row, n) for row in text.split("\n")], text)

    def test_kinds_of_what_is_told(self):
        rows = read_rows("x <a y > <0 z >\n\n<1 x >", 1)
        self.assertIs(rows.__class__, list)
        for row in rows:
            self.assertIs(row.__class__, list)
            for pair in row:
                self.assertIs(pair.__class__, tuple)
                self.assertEqual([part.__class__ for part in pair], [str, int])

    def test_a_new_list_each_time(self):
        for text in ("", "x", EXAMPLE, "\n\n", "x\nx\nx"):
            first = read_rows(text, 1)
            second = read_rows(text, 1)
            due = copy.deepcopy(second)
            for row in first:
                row.append(("more", 1))
            first.append([])
            self.assertEqual(second, due)
            self.assertEqual(read_rows(text, 1), due)
        one, other = read_rows("x\nx", 1)
        self.assertIsNot(one, other)


class Refused(unittest.TestCase):
    def refuse(self, text, n, at):
        asks = [lambda: read_rows(text, n)]
        asks.extend([lambda s=s: cut_text(text, n, s) for s in (0, 2 ** n - 1, 2 ** n) + NO_SETTINGS])
        for ask in asks:
            with self.assertRaises(NoGroup, msg=(text, n)) as caught:
                ask()
            self.assertEqual(caught.exception.at, at, (text, n))
            self.assertIs(caught.exception.at.__class__, int)

    def refuse_row(self, row, n):
        """The row alone, and behind and ahead of right ones."""
        self.refuse(row, n, 0)
        self.refuse("x\n\n" + row, n, 2)
        self.refuse("<1 x >\n" + row + "\nx\n", n, 1)

    def test_blanks(self):
        for row in (" ", "  ", " x", "x ", "x  y", "  x", "x y ", "<1 x > ", " <1 x >", "<1  x >", "<1 x  >", "x   y"):
            for n in (0, 1, 10):
                self.refuse_row(row, n)

    def test_no_wish(self):
        for wish in ("", "2", "!", "&a", "aa", "<", ">", "<a", "?a1", "?010", "A", "x", "a>", "-", "10", "!a!", "\"a\""):
            for n in (1, 2, 3):
                self.refuse_row(f"<{wish} x >", n)
                self.refuse_row(f"<{wish} >", n)
                self.refuse_row(f"x <1 <{wish} x > >", n)

    def test_the_word_alone(self):
        for n in range(11):
            for row in ("<", "< >", "< a >", "< a x >", "x < y", "< x", "x <"):
                self.refuse_row(row, n)

    def test_letters_beyond_the_switches(self):
        for n in range(11):
            for letter in "abcdefghijk"[n:]:
                for wish in (letter, "!" + letter, "&0" + letter, "|1" + letter, f"?{letter}11"):
                    self.refuse_row(f"<{wish} x >", n)

    def test_six_deep(self):
        for n in (0, 3, 10):
            for deep in (6, 7, 9):
                self.refuse_row("<1 " * deep + "x" + " >" * deep, n)
                self.refuse_row("<1 " * (deep - 1) + "<1" + " >" * deep, n)
            self.refuse_row("<1 > <1 <1 <1 <1 <1 x > <1 <1 > > > > > >", n)

    def test_one_too_many_closed(self):
        for n in (0, 2):
            for row in (">", "x >", "> x", "<1 x > >", "<1 > >", "> <1 x >", "<1 <1 x > > > <1 >", "> <1"):
                self.refuse_row(row, n)

    def test_not_closed(self):
        for n in (0, 2):
            for row in ("<1", "<1 x", "x <1", "<1 x > <1", "<1 <1 x >", "<1 <1 >", "<1 x >>", "<1 x> >a"):
                self.refuse_row(row, n)

    def test_a_group_ends_in_its_row(self):
        self.refuse("<a x\ny >", 1, 0)
        self.refuse("x\n<a\n>", 1, 1)
        self.refuse("<a x >\n>", 1, 1)

    def test_the_first_wrong_row_is_told(self):
        wrong = (" x", "<", "<k x >", "<1 " * 6 + "x" + " >" * 6, ">", "<1 x")
        for one, other in itertools.product(wrong, wrong):
            self.refuse(one + "\n" + other, 2, 0)
            self.refuse("x\n\n<a y >\n" + one + "\nx\n" + other, 2, 3)

    def test_all_short_rows(self):
        words = ("", "x", "<a", "<", "<b", ">")
        for length in range(1, 6):
            for chosen in itertools.product(words, repeat=length):
                deep, right = 0, chosen == ("",) or not set(chosen) & {"", "<", "<b"}
                for word in chosen:
                    deep += {"<a": 1, ">": -1}.get(word, 0)
                    right = right and deep >= 0
                row = " ".join(chosen)
                if right and deep == 0:
                    self.assertEqual(read_rows(row, 1), [read_by_hand(row, 1)])
                else:
                    with self.assertRaises(NoGroup, msg=row) as caught:
                        read_rows("x\n" + row, 1)
                    self.assertEqual(caught.exception.at, 1)

    def test_what_is_refused_changes_nothing(self):
        before = read_rows(EXAMPLE, 1)
        self.refuse("x\n<", 1, 1)
        self.assertEqual(read_rows(EXAMPLE, 1), before)
        self.assertEqual(cut_text(EXAMPLE, 1, 1), "tell + 1 x")


class NoSettings(unittest.TestCase):
    def test_what_is_no_setting(self):
        for n in range(11):
            for s in NO_SETTINGS + (2 ** n, 2 ** n + 1):
                for text in ("", "x", "<1 x > y", "x\n\n<0 y >"):
                    with self.assertRaises(NoSet, msg=(text, n)):
                        cut_text(text, n, s)

    def test_the_settings_at_the_ends(self):
        for n in range(11):
            self.assertEqual(cut_text("x <1 y >", n, 0), "x y")
            self.assertEqual(cut_text("x <1 y >", n, 2 ** n - 1), "x y")


class Cut(unittest.TestCase):
    def test_every_setting_of_some_texts(self):
        for n in range(11):
            for text in some_texts(n, 40 if n < 6 else 5):
                rows = read_rows(text, n)
                for s in range(2 ** n):
                    due = [cut_by_hand(row, s) for row in text.split("\n")]
                    self.assertEqual(cut_rows(rows, s), due)
                    told = cut_text(text, n, s)
                    self.assertEqual(told, "\n".join(" ".join(words) for words in due))
                    self.assertEqual(told.count("\n"), text.count("\n"))

    def test_cut_again(self):
        for n in (0, 1, 3, 5):
            for text in some_texts(n, 20):
                for s in range(2 ** n):
                    once = cut_text(text, n, s)
                    for other in range(2 ** n):
                        self.assertEqual(cut_text(once, n, other), once)
                    self.assertEqual(cut_rows(read_rows(once, n), s), cut_rows(read_rows(text, n), s))

    def test_rows_that_come_to_nothing(self):
        text = "<a x >\n\n<0 y >\nz\n"
        self.assertEqual((cut_text(text, 1, 0), cut_text(text, 1, 1)), ("\n\n\nz\n", "x\n\n\nz\n"))
        self.assertEqual(cut_rows(read_rows(text, 1), 0), [[], [], [], ["z"], []])
        self.assertEqual(cut_text("", 0, 0), "")
        self.assertEqual(cut_rows([], 0), [])

    def test_one_blank_between_words(self):
        self.assertEqual(cut_text("x <a y > <!a z > <0 > w", 1, 0), "x z w")
        self.assertEqual(cut_text("<a y > x <a y >", 1, 0), "x")

    def test_the_rows_handed_in_stay(self):
        rows = read_rows("x <a y >\n\n<b x > z", 2)
        before = copy.deepcopy(rows)
        for s in range(4):
            told = cut_rows(rows, s)
            again = cut_rows(rows, s)
            self.assertIs(told.__class__, list)
            for words in told:
                self.assertIs(words.__class__, list)
                words.append("more")
            told.append(["more"])
            self.assertEqual(rows, before)
            self.assertEqual(cut_rows(rows, s), again)

    def test_what_is_done_to_the_rows_behind_the_call(self):
        rows = read_rows("x <a y >", 1)
        told = cut_rows(rows, 1)
        rows[0].pop()
        rows.append([("z", 3)])
        self.assertEqual(told, [["x", "y"]])


class Variants(unittest.TestCase):
    def check(self, text_row, mask, n):
        row = read_rows(text_row, n)[0]
        before = list(row)
        due = {}
        for s in settings(mask):
            due.setdefault(tuple(cut_by_hand(text_row, s)), []).append(s)
        if len(due) > 16:
            with self.assertRaises(TooMany):
                variants(row, mask)
            return
        told = variants(row, mask)
        self.assertEqual(told, [(sum(2 ** s for s in held), words) for words, held in due.items()])
        self.assertEqual(row, before)
        self.assertIs(told.__class__, list)
        together = 0
        for where, words in told:
            self.assertIs(words.__class__, tuple)
            self.assertIs(where.__class__, int)
            self.assertGreater(where, 0)
            self.assertEqual(together & where, 0)
            together |= where
        self.assertEqual(together, mask)
        self.assertEqual(len({words for where, words in told}), len(told))
        self.assertEqual([settings(where)[0] for where, words in told], sorted(settings(where)[0] for where, words in told))

    def test_some_rows(self):
        chance = random.Random(14)
        for n in range(11):
            for count in range(60 if n < 6 else 6):
                mask = chance.choice([full(n), chance.randrange(2 ** 2 ** n), chance.randrange(2 ** 2 ** n)])
                self.check(grouped_row(chance, n, 9), mask, n)

    def test_every_mask_of_few_switches(self):
        for n in range(4):
            for row in ("", "x", "<0 x >", "<1 x > y", "<1 x > <!1 y >"):
                for mask in range(2 ** 2 ** n):
                    self.check(row, mask, n)
        for row in ("<a x > <b y >", "<a x > <!a x >", "<b <a x > > <!b <a x > y >", "x <^ab y >", "<b x > <!a x >"):
            for mask in range(16):
                self.check(row, mask, 2)

    def test_alike_though_other_words_stand(self):
        row = read_rows("<a x > <!a x >", 1)[0]
        self.assertEqual(variants(row, 3), [(3, ("x",))])
        row = read_rows("<a x y > <b x > <!b y >", 2)[0]
        self.assertEqual(variants(row, 15), [(1, ("y",)), (2, ("x", "y", "y")), (4, ("x",)), (8, ("x", "y", "x"))])

    def test_the_order_of_the_least_settings(self):
        row = read_rows("<a x > <b y >", 2)[0]
        self.assertEqual(variants(row, 15), [(1, ()), (2, ("x",)), (4, ("y",)), (8, ("x", "y"))])
        self.assertEqual(variants(row, 12), [(4, ("y",)), (8, ("x", "y"))])
        row = read_rows("<!a x >", 2)[0]
        self.assertEqual(variants(row, 15), [(5, ("x",)), (10, ())])
        self.assertEqual(variants(row, 14), [(10, ()), (4, ("x",))])

    def test_over_the_mask_without_settings(self):
        for row in ("", "x", "<a x >", "<a 1 > <b 2 > <c 3 > <d 4 > <e 5 >"):
            self.assertEqual(variants(read_rows(row, 5)[0], 0), [])

    def test_the_row_without_words(self):
        self.assertEqual(variants([], 1), [(1, ())])
        self.assertEqual(variants([], 6), [(6, ())])

    def test_sixteen_are_told(self):
        four = read_rows("<a 1 > <b 2 > <c 3 > <d 4 >", 4)[0]
        told = variants(four, 2 ** 16 - 1)
        self.assertEqual([where for where, words in told], [2 ** s for s in range(16)])
        self.assertEqual(variants(four, 2 ** 16 - 1, 7), told)
        five = read_rows("<a 1 > <b 2 > <c 3 > <d 4 > <e 5 >", 5)[0]
        self.assertEqual(len(variants(five, 2 ** 16 - 1)), 16)
        self.assertEqual(len(variants(five, 2 ** 32 - 2 ** 16)), 16)

    def test_seventeen_are_refused(self):
        five = read_rows("<a 1 > <b 2 > <c 3 > <d 4 > <e 5 >", 5)[0]
        before = list(five)
        for mask in (2 ** 17 - 1, 2 ** 17 - 2 + 2 ** 31, 2 ** 32 - 1, 2 ** 32 - 2 ** 15):
            with self.assertRaises(TooMany) as caught:
                variants(five, mask)
            self.assertEqual(caught.exception.at, 0)
            for at in (0, 1, 7, 59):
                with self.assertRaises(TooMany) as caught:
                    variants(five, mask, at)
                self.assertEqual(caught.exception.at, at)
                with self.assertRaises(TooMany) as caught:
                    variants(five, mask, at=at)
                self.assertEqual(caught.exception.at, at)
        self.assertEqual(five, before)
        self.assertEqual(len(variants(five, 2 ** 16 - 1)), 16)

    def test_many_settings_with_few_cuts(self):
        row = read_rows("<&ab x > <|gh y > z", 10)[0]
        self.assertEqual([words for where, words in variants(row, full(10))],
                         [("z",), ("x", "z"), ("y", "z"), ("x", "y", "z")])

    def test_a_new_list_each_time(self):
        row = read_rows(EXAMPLE, 1)[0]
        first = variants(row, 3)
        first.append((4, ()))
        first.pop(0)
        self.assertEqual(variants(row, 3), [(1, ("tell", "x")), (2, ("tell", "+", "1", "x"))])
        told = variants(row, 3)
        row.pop()
        self.assertEqual(told, [(1, ("tell", "x")), (2, ("tell", "+", "1", "x"))])


if __name__ == "__main__":
    unittest.main()
