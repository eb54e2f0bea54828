"""Point 34 and JOINED of point 3, and of point 2 what holds for joined texts."""

import functools
import itertools
import random
import unittest

from manymakes.joining import joined
from manymakes.texts import cut_text, read_rows
from programs import cut_by_hand

ROWS = ("tell 1", "tell 2", "set x + x 1", "end", "x", "y", "y y", ">> =< a<b", "~", "! & | ^ ?a10")


def full_rows(text):
    return [row for row in text.split("\n") if row]


def has_group(text):
    return any(word == ">" or word.startswith("<") for row in text.split("\n") for word in row.split(" "))


def changed(chance, text):
    """The rows of a text, some of them gone, changed, moved or new."""
    rows = text.split("\n")
    for count in range(chance.choice((0, 1, 1, 2, 4))):
        place = chance.randrange(len(rows))
        way = chance.choice("gone new other turned".split())
        if way == "gone" and len(rows) > 1:
            rows.pop(place)
        elif way == "turned":
            rows[:place] = reversed(rows[:place])
        elif way == "new":
            rows.insert(place, chance.choice(ROWS + ("",)))
        else:
            rows[place] = chance.choice(ROWS + ("",))
    return "\n".join(rows)


def with_empty_rows(chance, text):
    rows = []
    for row in text.split("\n"):
        rows += [""] * chance.choice((0, 0, 1, 2)) + [row]
    return "\n".join(rows + [""] * chance.choice((0, 0, 1)))


def some_texts(chance, n):
    """1 to 2**n texts, of at most sixty rows together: without rows, alike, alike in some rows, all unlike."""
    many = chance.choice((1, 2 ** n, chance.randrange(1, 2 ** n + 1)))
    length = chance.randrange(1, 60 // many + 1)
    way = chance.choice(("alike", "some", "some", "some", "unlike", "empty", "chance"))
    base = "\n".join(chance.choice(ROWS + ("",)) for count in range(length))
    texts = []
    for place in range(many):
        if way == "alike":
            text = with_empty_rows(chance, base)
        elif way == "some":
            text = changed(chance, base)
        elif way == "unlike":
            text = "\n".join(f"row {place} {count}" for count in range(length))
        elif way == "empty":
            text = chance.choice(("", "", "\n\n", base))
        else:
            text = "\n".join(chance.choice(ROWS[:3] + ("",)) for count in range(chance.randrange(1, length + 1)))
        texts.append(text)
    if sum(text.count("\n") + 1 for text in texts) > 60:
        return some_texts(chance, n)
    return texts


class Checked(unittest.TestCase):
    def check(self, texts, n):
        """All that point 34 says of one list; tells the joined text."""
        before = list(texts)
        told = joined(texts, n)
        self.assertIs(told.__class__, str)
        self.assertEqual(texts, before)
        self.assertEqual(joined(texts, n), told)
        self.assertEqual(joined(list(texts), n), told)
        # Refused where it is no text with groups over n switches.
        read_rows(told, n)
        for place, text in enumerate(texts):
            due = full_rows(text)
            self.assertEqual(full_rows(cut_text(told, n, place)), due, texts)
            cut = [" ".join(cut_by_hand(row, place)) for row in told.split("\n")]
            self.assertEqual([row for row in cut if row], due, texts)
        if len({tuple(full_rows(text)) for text in texts}) == 1:
            self.assertFalse(has_group(told), texts)
            self.assertEqual(full_rows(told), full_rows(texts[0]))
        return told


class ByHand(Checked):
    def test_two_texts(self):
        told = self.check(["tell 1\ntell 2", "tell 1\ntell 3"], 1)
        self.assertTrue(has_group(told))
        self.assertEqual(read_rows(told, 1)[0], [("tell", 3), ("1", 3)])

    def test_one_text(self):
        for n in (0, 1, 3, 10):
            for text in ("", "x", "tell 1\n\ntell 2", "\n\n", "\nx\n\ny z\n"):
                told = self.check([text], n)
                self.assertFalse(has_group(told))

    def test_texts_without_rows(self):
        for n in range(4):
            for many in range(1, 2 ** n + 1):
                self.assertFalse(has_group(self.check([""] * many, n)))
                self.assertFalse(has_group(self.check(["\n" * (place % 4) for place in range(many)], n)))
                for place in range(many):
                    texts = [""] * many
                    texts[place] = "x\ny z\n\nx"
                    self.assertEqual(has_group(self.check(texts, n)), many > 1)

    def test_alike_but_for_empty_rows(self):
        told = self.check(["x\ny", "\nx\n\n\ny", "x\ny\n"], 2)
        self.assertEqual(full_rows(told), ["x", "y"])

    def test_lists_shorter_than_the_settings(self):
        for many in range(1, 9):
            self.check([f"x\ntell {place}\ny" for place in range(many)], 3)
            self.assertEqual(full_rows(self.check(["x\ny"] * many, 3)), ["x", "y"])

    def test_rows_in_another_order(self):
        self.check(["x\ny", "y\nx"], 1)
        for order in itertools.permutations(("x", "y", "z")):
            self.check(["x\ny\nz", "\n".join(order)], 1)
            self.check(["x\ny\nz", "\n".join(order), "z\ny\nx", "y\nx\nx\ny"], 2)

    def test_rows_that_come_more_than_once(self):
        for one, other in itertools.product(range(6), range(6)):
            self.check(["\n".join("x" * one), "\n".join("x" * other)], 1)
            self.check(["\n".join("xy" * one), "\n".join("yx" * other), "\n".join("x" * one)], 2)

    def test_words_that_look_like_parts_of_groups(self):
        for row in (">> x", "a> b", "x<a y", "!a", "?a10", ">= =<", "1 0", "~ !"):
            self.check([row, "x", row + "\nx", ""], 2)

    def test_many_words_in_a_row(self):
        row = " ".join(str(count) for count in range(100))
        self.check([row, row + "\nx", "x", row], 2)

    def test_sixty_texts(self):
        for n in (6, 7, 10):
            self.check([f"tell {place}" for place in range(60)], n)
            self.check([f"tell {place % 2}" for place in range(60)], n)
            self.check(["tell 1"] * 60, n)

    def test_sixty_rows(self):
        one = "\n".join(f"tell {place}" for place in range(30))
        for other in (one, one.replace("7", "x"), one[::-1], ""):
            self.check([one, other], 1)
        self.check(["\n".join(f"tell {place}" for place in range(60))], 0)


class Many(Checked):
    def test_all_short_texts(self):
        rows = ("", "x", "y z")
        short = ["\n".join(some) for length in (1, 2, 3) for some in itertools.product(rows, repeat=length)]
        for one in short:
            self.check([one], 0)
        for one, other in itertools.product(short, short):
            self.check([one, other], 1)
        for texts in itertools.product(short[:12], repeat=3):
            self.check(list(texts), 2)

    def test_many_lists(self):
        for n in range(4):
            chance = random.Random(n)
            grouped, alone, fewer = 0, 0, 0
            for count in range(400):
                texts = some_texts(chance, n)
                told = self.check(texts, n)
                grouped += has_group(told)
                alone += len(texts) > 1 and not has_group(told)
                fewer += len(texts) < 2 ** n
            if n > 0:
                self.assertGreater(min(grouped, alone, fewer), 20, n)

    def test_more_switches(self):
        for n in (4, 5, 10):
            chance = random.Random(n)
            for count in range(40):
                self.check(some_texts(chance, min(n, 5)), n)


class Shared(Checked):
    """Which rows are shared is the program's own choice: of two texts as many as can be."""

    def most_shared(self, one, other):
        @functools.cache
        def most(left, right):
            if left == len(one) or right == len(other):
                return 0
            both = 1 + most(left + 1, right + 1) if one[left] == other[right] else 0
            return max(both, most(left + 1, right), most(left, right + 1))
        return most(0, 0)

    def test_two_texts(self):
        chance = random.Random(34)
        for count in range(300):
            one = "\n".join(chance.choice("xyz") for again in range(chance.randrange(1, 12)))
            other = changed(chance, one)
            told = self.check([one, other], 1)
            left, right = full_rows(one), full_rows(other)
            self.assertEqual(len(full_rows(told)), len(left) + len(right) - self.most_shared(left, right))

    def test_no_more_rows_than_the_texts_have(self):
        chance = random.Random(35)
        for n in range(4):
            for count in range(100):
                texts = some_texts(chance, n)
                told = self.check(texts, n)
                self.assertLessEqual(len(full_rows(told)), sum(len(full_rows(text)) for text in texts))


class Own(unittest.TestCase):
    def test_the_list_changed_behind_the_call(self):
        texts = ["x\ny", "x", "z"]
        told = joined(texts, 2)
        kept = told
        texts.append("w")
        texts[0] = ""
        self.assertEqual(told, kept)
        self.assertEqual(joined(["x\ny", "x", "z"], 2), kept)

    def test_calls_between(self):
        lists = [["x\ny", "y"], ["x"], ["x\ny", "y", "y\nx"], [""]]
        firsts = [joined(texts, 2) for texts in lists]
        self.assertEqual([joined(texts, 2) for texts in reversed(lists)], firsts[::-1])


if __name__ == "__main__":
    unittest.main()
