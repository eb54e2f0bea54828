"""Point 19 and READING of point 3, TooMany of point 14, and of point 2 what holds for the shared reader."""

import copy
import itertools
import random
import unittest

from manymakes.cutting import cut_tree
from manymakes.errors import NoForm, TooMany
from manymakes.plainread import read_plain
from manymakes.sharedread import read_shared
from manymakes.texts import cut_rows, read_rows
from programs import full, held, mask_of, row_text, shared_text, some_mask

X, ONE, TWO = ("name", "x"), ("num", 1), ("num", 2)
EXPRS = ("x", "1", "2", "yes", "+ x 1", "do f x .", "new k .", "of u x", "not less 1 x")
WRONG = ("tell", "x", "set x", "set 1 1", "if", "while 1 2", "kind k u", "def f", "end end", "else 1", "tell do f 1", "give")


def read(text, n, mask=None):
    """The reading of a text written down; / parts its rows."""
    return read_shared(read_rows(text.replace("/", "\n"), n), full(n) if mask is None else mask)


def plain(rows, s):
    """The tree of the rows cut to a setting and None, or None and (at, what)."""
    try:
        return read_plain(cut_rows(rows, s)), None
    except NoForm as refused:
        return None, (refused.at, refused.what)


def due_reading(rows, mask):
    """The whole reading, put together of the plain readings of all settings."""
    faults, trees = {}, []
    for s in held(mask):
        tree, fault = plain(rows, s)
        if fault is None:
            trees.append((s, tree))
        else:
            faults[fault] = faults.get(fault, []) + [s]
    return put_together(rows, trees), [(mask_of(found), at, what) for (at, what), found in sorted(faults.items())]


def put_together(rows, lists):
    """One list of a shared tree, of (s, list of plain statements) with s rising."""
    tuples = {}
    for s, statements in lists:
        for one in statements:
            words = tuple(word for word, mask in rows[one[1]] if mask >> s & 1)
            tuples.setdefault((one[1], words), []).append((s, one))
    found = []
    for (at, words), some in sorted(tuples.items(), key=lambda pair: (pair[0][0], pair[1][0][0])):
        parts = []
        for place, part in enumerate(some[0][1]):
            if isinstance(part, list):
                part = put_together(rows, [(s, one[place]) for s, one in some])
            parts.append(part)
        found.append((mask_of([s for s, one in some]), tuple(parts)))
    return found


def some_row(chance, word):
    """Words of a row that begins with this word; now and then they are of no form."""
    if chance.random() < 0.02:
        return chance.choice(WRONG).split()
    if word == "kind":
        return ("kind k " + chance.choice(("", "u num", "u num v truth"))).split()
    if word == "def":
        return ("def f " + chance.choice(("num", "truth", "k x num"))).split()
    if word == "set":
        return ["set", chance.choice("xy")] + chance.choice(EXPRS).split()
    if word in ("tell", "give", "if", "while"):
        return [word] + chance.choice(EXPRS).split()
    return [word] if word else []


class Reads(unittest.TestCase):
    def check(self, text, n, mask):
        """All that point 19 says of one text, and of one mask; how many settings are read and how many are not."""
        rows = read_rows(text, n)
        before = copy.deepcopy(rows)
        told = read_shared(rows, mask)
        self.assertEqual(rows, before, text)
        self.assertIs(told.__class__, tuple)
        tree, faults = told
        self.check_faults(faults, mask)
        self.check_list(tree, mask, rows)
        at_top = 0
        for there, one in tree:
            at_top |= there
        for s in held(mask):
            due, fault = plain(rows, s)
            if fault is None:
                self.assertEqual([at for there, at, what in faults if there >> s & 1], [], text)
                self.assertEqual(cut_tree(tree, s), due, text)
            else:
                self.assertEqual([(at, what) for there, at, what in faults if there >> s & 1], [fault], text)
                self.assertEqual(at_top >> s & 1, 0, text)
        self.assertEqual(told, due_reading(rows, mask), text)
        wrong = sum(len(held(there)) for there, at, what in faults)
        return len(held(mask)) - wrong, wrong

    def check_faults(self, faults, mask):
        self.assertIs(faults.__class__, list)
        together = 0
        for fault in faults:
            self.assertIs(fault.__class__, tuple)
            there, at, what = fault
            self.assertGreater(there, 0)
            self.assertEqual(there & together, 0)
            together |= there
            self.assertIn(what, ("form", "place", "stray", "open"))
        self.assertEqual(together | mask, mask)
        keys = [(at, what) for there, at, what in faults]
        self.assertEqual(keys, sorted(set(keys)))

    def check_list(self, statements, mask, rows):
        self.assertIs(statements.__class__, list)
        last = -1
        for pair in statements:
            self.assertIs(pair.__class__, tuple)
            there, one = pair
            self.assertIs(there.__class__, int)
            self.assertIs(one.__class__, tuple)
            self.assertGreater(there, 0)
            self.assertEqual(there | mask, mask)
            self.assertGreaterEqual(one[1], last)
            last = one[1]
            for part in one:
                if isinstance(part, list):
                    self.check_list(part, there, rows)
        for at, same in itertools.groupby(statements, key=lambda pair: pair[1][1]):
            masks = [there for there, one in same]
            self.assertEqual(sum(masks), mask_of({s for there in masks for s in held(there)}))
            self.assertEqual([held(there)[0] for there in masks], sorted(held(there)[0] for there in masks))
            words = [{tuple(word for word, stands in rows[at] if stands >> s & 1) for s in held(there)} for there in masks]
            self.assertEqual([len(some) for some in words], [1] * len(words))
            self.assertEqual(len({min(some) for some in words}), len(words))


class ByHand(Reads):
    def test_without_groups(self):
        self.assertEqual(read("", 0), ([], []))
        self.assertEqual(read("tell 1", 0), ([(1, ("tell", 0, ONE))], []))
        self.assertEqual(read("tell 1/tell x", 2), ([(15, ("tell", 0, ONE)), (15, ("tell", 1, X))], []))
        self.assertEqual(read("/kind k u num//def f k x num/give x/end", 1), (
            [(3, ("kind", 1, "k", (("u", "num"),))), (3, ("def", 3, "f", "k", (("x", "num"),), [(3, ("give", 4, X))]))], []))

    def test_rows_and_no_rows(self):
        self.assertEqual(read_shared([], 15), ([], []))
        self.assertEqual(read_shared([], 0), ([], []))
        self.assertEqual(read_shared([[], []], 3), ([], []))

    def test_a_word_under_wishes(self):
        self.assertEqual(read("tell <a 1 > <!a x >", 1), ([(1, ("tell", 0, X)), (2, ("tell", 0, ONE))], []))
        self.assertEqual(read("<a tell 1 >", 1), ([(2, ("tell", 0, ONE))], []))
        self.assertEqual(read("<a tell 1 > <!a tell 1 >", 1), ([(3, ("tell", 0, ONE))], []))
        self.assertEqual(read("<a tell > <!a give > 1", 1), ([(2, ("tell", 0, ONE))], [(1, 0, "place")]))

    def test_a_block_that_begins_by_another_row(self):
        self.assertEqual(read("<a if > <!a while > x/tell 1/end/tell x", 1), ([
            (1, ("while", 0, X, [(1, ("tell", 1, ONE))])),
            (2, ("if", 0, X, [(2, ("tell", 1, ONE))], [])),
            (3, ("tell", 3, X))], []))

    def test_a_block_that_is_there_in_some_settings(self):
        self.assertEqual(read("<a if x >/tell 1/<a end >/tell 2", 1), ([
            (2, ("if", 0, X, [(2, ("tell", 1, ONE))], [])),
            (1, ("tell", 1, ONE)),
            (3, ("tell", 3, TWO))], []))

    def test_an_else_that_is_there_in_some_settings(self):
        self.assertEqual(read("if x/tell 1/<a else >/tell 2/tell x/end/tell 1", 1), ([
            (3, ("if", 0, X, [(3, ("tell", 1, ONE)), (1, ("tell", 3, TWO)), (1, ("tell", 4, X))],
                 [(2, ("tell", 3, TWO)), (2, ("tell", 4, X))])),
            (3, ("tell", 6, ONE))], []))

    def test_settings_that_come_together_at_other_rows(self):
        self.assertEqual(read("while x/<a end >/<!a end >/tell 1", 1), ([
            (3, ("while", 0, X, [])), (3, ("tell", 3, ONE))], []))
        self.assertEqual(read("while x/<a end >/tell 1/<!a end >/tell 1", 1), ([
            (3, ("while", 0, X, [(1, ("tell", 2, ONE))])), (2, ("tell", 2, ONE)), (3, ("tell", 4, ONE))], []))
        self.assertEqual(read("while x/<a else >", 1), ([], [(2, 1, "stray"), (1, 2, "open")]))

    def test_one_tuple_whatever_they_do_behind(self):
        self.assertEqual(read("if x/<a else >/tell <b 1 > <!b 2 >/<a end > <!a end >/<&ab tell 1 >", 2), ([
            (15, ("if", 0, X, [(1, ("tell", 2, TWO)), (4, ("tell", 2, ONE))],
                  [(2, ("tell", 2, TWO)), (8, ("tell", 2, ONE))])),
            (8, ("tell", 4, ONE))], []))

    def test_the_same_row_in_unlike_lists(self):
        self.assertEqual(read("<a if x > <!a if 1 >/tell 1/end", 1), ([
            (1, ("if", 0, ONE, [(1, ("tell", 1, ONE))], [])), (2, ("if", 0, X, [(2, ("tell", 1, ONE))], []))], []))

    def test_the_order_of_the_least_settings(self):
        self.assertEqual(read("tell <!b 1 > <b 2 >", 2, 12), ([(12, ("tell", 0, TWO))], []))
        self.assertEqual(read("tell <!a 1 > <a 2 >", 2, 14), ([(10, ("tell", 0, TWO)), (4, ("tell", 0, ONE))], []))
        self.assertEqual(read("tell <!a 1 > <a 2 >", 2, 6), ([(2, ("tell", 0, TWO)), (4, ("tell", 0, ONE))], []))

    def test_the_order_where_the_least_setting_has_a_fault(self):
        self.assertEqual(read("tell <!a 1 > <a 2 >/<&!a!b end >", 2), (
            [(10, ("tell", 0, TWO)), (4, ("tell", 0, ONE))], [(1, 1, "stray")]))
        self.assertEqual(read("while x/tell <!a 1 > <a 2 >/<|ab end >", 2), (
            [(14, ("while", 0, X, [(10, ("tell", 1, TWO)), (4, ("tell", 1, ONE))]))], [(1, 3, "open")]))

    def test_the_order_in_a_list_where_the_least_setting_is_elsewhere(self):
        self.assertEqual(read("<|ab while x >/tell <!a 1 > <a 2 >/<|ab end >", 2), ([
            (14, ("while", 0, X, [(10, ("tell", 1, TWO)), (4, ("tell", 1, ONE))])), (1, ("tell", 1, ONE))], []))

    def test_faults(self):
        self.assertEqual(read("<a tell >", 1), ([], [(2, 0, "form")]))
        self.assertEqual(read("<a tell >/<!a end >/tell 1", 1), ([], [(2, 0, "form"), (1, 1, "stray")]))
        self.assertEqual(read("<a end > <!a give 1 >", 1), ([], [(1, 0, "place"), (2, 0, "stray")]))
        self.assertEqual(read("tell 1/<a if x >/tell 2", 1), ([(1, ("tell", 0, ONE)), (1, ("tell", 2, TWO))], [(2, 3, "open")]))
        self.assertEqual(read("if x/<b end >/<a end >", 2), ([(6, ("if", 0, X, [], []))], [(8, 2, "stray"), (1, 3, "open")]))

    def test_one_fault_of_unlike_cuts_and_lists(self):
        self.assertEqual(read("<a tell > <!a x >", 1), ([], [(3, 0, "form")]))
        self.assertEqual(read("<a if x > <!a while x >/kind <b k > <!b p >", 2), ([], [(15, 1, "place")]))
        self.assertEqual(read("<a if x > <!a while x >", 1), ([], [(3, 1, "open")]))
        self.assertEqual(read("<a while > <!a def > <a x > <!a f num >/else", 1), ([], [(3, 1, "stray")]))

    def test_the_first_fault_of_a_setting(self):
        self.assertEqual(read("tell/tell/end", 1), ([], [(3, 0, "form")]))
        self.assertEqual(read("<a tell >/tell/end", 1), ([], [(2, 0, "form"), (1, 1, "form")]))
        self.assertEqual(read("if x/<a give 1 >/tell", 1), ([], [(2, 1, "place"), (1, 2, "form")]))

    def test_places(self):
        self.assertEqual(read("if x/if x/if x/<a if x >/<b if x >/end/end/end/<a end >/<b end >", 2)[1], [(8, 4, "place")])
        self.assertEqual(read("<a def f num > <!a while x >/give 1/end", 1), (
            [(2, ("def", 0, "f", "num", (), [(2, ("give", 1, ONE))]))], [(1, 1, "place")]))
        self.assertEqual(read("def f num/if x/<a else >/give 1/end/end/<a give 1 >", 1), (
            [(1, ("def", 0, "f", "num", (), [(1, ("if", 1, X, [(1, ("give", 3, ONE))], []))]))], [(2, 6, "place")]))

    def test_the_mask_alone(self):
        self.assertEqual(read("<a tell > <!a tell 1 >", 1, 1), ([(1, ("tell", 0, ONE))], []))
        self.assertEqual(read("<a tell > <!a tell 1 >", 1, 2), ([], [(2, 0, "form")]))
        self.assertEqual(read("tell/end/x", 2, 0), ([], []))
        self.assertEqual(read("tell 1/if x", 2, 0), ([], []))
        self.assertEqual(read("tell <b 1 > <!b x >/<a end >", 2, 6), ([(4, ("tell", 0, ONE))], [(2, 1, "stray")]))


class Many(Reads):
    def test_all_short_texts_of_two_cuts(self):
        chance = random.Random(1)
        rows = [row.split() for row in ("", "if x", "while x", "else", "end", "tell 1", "def f num", "give x", "kind k", "tell")]
        for one, other in itertools.product(itertools.product(rows, repeat=2), repeat=2):
            text = "\n".join(row_text([(1, off), (2, on)], 1, chance) for off, on in zip(one, other))
            self.check(text, 1, 3)

    def test_texts_of_blocks(self):
        chance = random.Random(2)
        rows = [row.split() for row in ("", "if x", "else", "end", "tell 1")]
        pairs = list(itertools.product(rows, repeat=2))
        for count in range(3000):
            chosen = [(["if", "x"], chance.choice(rows))] + chance.choices(pairs, k=chance.randrange(2, 5)) + [(["end"], ["end"])]
            text = "\n".join(row_text([(1, off), (2, on)], 1, chance) for off, on in chosen)
            self.check(text, 1, 3)

    def test_many_texts(self):
        for n in range(4):
            chance = random.Random(n)
            sound, wrong = 0, 0
            for count in range(400):
                text = shared_text(chance, n, chance.randrange(1, 16), some_row)
                found = self.check(text, n, some_mask(chance, n))
                sound, wrong = sound + found[0], wrong + found[1]
            self.assertGreater(sound, 100)
            self.assertGreater(wrong, 50)

    def test_masks_of_one_text(self):
        chance = random.Random(7)
        for n in range(3):
            for count in range(30):
                text = shared_text(chance, n, 8, some_row)
                for mask in range(full(n) + 1):
                    self.check(text, n, mask)

    def test_more_switches(self):
        chance = random.Random(46)
        for n in (4, 5, 6):
            for count in range(12):
                self.check(shared_text(chance, n, 25, some_row, 0.002), n, some_mask(chance, n))

    def test_words_under_wishes_at_any_place(self):
        chance = random.Random(8)
        words = "if while tell set x 1 + end else".split()
        for count in range(3000):
            n = chance.choice((1, 2, 2, 3))
            rows = []
            for row in range(chance.randrange(1, 6)):
                row = []
                for place in range(chance.randrange(4)):
                    letter = "abc"[chance.randrange(n)]
                    sign = chance.choice(("", "!", None, None))
                    word = chance.choice(words)
                    row += [word] if sign is None else ["<" + sign + letter, word, ">"]
                rows.append(" ".join(row))
            self.check("\n".join(rows), n, some_mask(chance, n))

    def test_long_texts(self):
        rows = ["<a if x > <!a while x >", "tell <b 1 > <!b 2 >", "<c else >", "tell x", "end"] * 12
        found = self.check("\n".join(rows), 6, full(6))
        self.assertEqual(found, (48, 16))


class TooMuch(Reads):
    SEVENTEEN = "tell <a 1 > <b 2 > <c 3 > <d 4 > <e 5 >"
    SIXTEEN = "tell <a 1 > <b 2 > <c 3 > <d 4 >"

    def refuse(self, text, n, mask, at):
        rows = read_rows(text.replace("/", "\n"), n)
        before = copy.deepcopy(rows)
        with self.assertRaises(TooMany) as caught:
            read_shared(rows, mask)
        self.assertEqual(caught.exception.at, at)
        self.assertEqual(rows, before)

    def test_refused_with_the_number_of_the_row(self):
        for above in range(5):
            self.refuse("tell 1/" * above + self.SEVENTEEN, 5, full(5), above)
        self.refuse(self.SEVENTEEN + "/tell 1", 5, 2 ** 17 - 1, 0)
        self.refuse(self.SEVENTEEN + "/tell 1", 5, 2 ** 32 - 2 ** 15, 0)

    def test_the_first_such_row(self):
        self.refuse("/".join(["tell 1", self.SIXTEEN, self.SEVENTEEN, "", self.SEVENTEEN]), 5, full(5), 2)

    def test_ahead_of_all_reading(self):
        for above in ("tell", "end", "give 1", "if x", "if x/kind k", "x/x", "<a tell > <!a end >"):
            self.refuse(above + "/" + self.SEVENTEEN, 5, full(5), above.count("/") + 1)
        self.refuse(self.SEVENTEEN + "/tell/end", 5, full(5), 0)
        self.refuse("tell 1 " + self.SEVENTEEN, 5, full(5), 0)

    def test_sixteen_are_let_by(self):
        tree, faults = read(self.SIXTEEN, 4)
        self.assertEqual((tree, faults[0][1:]), ([(mask, ("tell", 0, ("num", number))) for mask, number in (
            (2, 1), (4, 2), (16, 3), (256, 4))], (0, "form")))
        self.assertEqual(read(self.SIXTEEN, 5)[1], [(full(5) - 2 ** 16 * 0x116 - 0x116, 0, "form")])

    def test_a_smaller_mask(self):
        self.refuse("tell 1/" + self.SEVENTEEN, 5, 2 ** 17 - 1, 1)
        for mask in (2 ** 16 - 1, 2 ** 17 - 2, 2 ** 32 - 2 ** 16, 6, 0):
            self.check("tell 1\n" + self.SEVENTEEN, 5, mask)
        self.assertEqual(read("tell 1/" + self.SEVENTEEN, 5, 6), (
            [(6, ("tell", 0, ONE)), (2, ("tell", 1, ONE)), (4, ("tell", 1, TWO))], []))

    def test_many_settings_with_few_cuts(self):
        self.check("\n".join(["<|abc if x >", "tell <&def 1 > <!&def 2 >", "<|abc end >"]).replace("|abc", "|a|bc").replace("&def", "&d&ef"),
                   6, full(6))


class Own(Reads):
    TEXT = "kind k u num/def f <a num > <!a k >/<b if x >/give x/<b end >/end/if x/tell 1/<a else >/while x/end/end/<&ab end >"

    def lists_of(self, tree):
        found = [tree]
        for mask, one in tree:
            for part in one:
                if isinstance(part, list):
                    found += self.lists_of(part)
        return found

    def test_what_is_done_to_the_rows_behind_the_call(self):
        rows = read_rows(self.TEXT.replace("/", "\n"), 2)
        told = read_shared(rows, 15)
        before = copy.deepcopy(told)
        for row in rows:
            row.append(("more", 15))
            row.pop(0)
        rows.clear()
        self.assertEqual(told, before)

    def test_a_list_told_and_changed_changes_nothing(self):
        rows = read_rows(self.TEXT.replace("/", "\n"), 2)
        before = copy.deepcopy(rows)
        due = copy.deepcopy(read_shared(rows, 15))
        tree, faults = read_shared(rows, 15)
        self.assertEqual(len(faults), 1)
        lists = self.lists_of(tree) + [faults]
        self.assertEqual(len({id(one) for one in lists}), len(lists))
        for one in lists:
            one.clear()
        self.assertEqual(rows, before)
        self.assertEqual(read_shared(rows, 15), due)

    def test_a_refusal_changes_nothing(self):
        due = read(self.TEXT, 2)
        with self.assertRaises(TooMany):
            read("if x/" + TooMuch.SEVENTEEN, 5)
        self.assertEqual(read(self.TEXT, 2), due)


if __name__ == "__main__":
    unittest.main()
