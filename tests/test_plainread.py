"""Points 15 to 18, and of point 2 that what is handed in stays and what is told is the asker's own."""

import copy
import itertools
import random
import unittest

from manymakes.errors import NoForm
from manymakes.plainread import read_plain

WORDS = ("kind def set tell give if else while end num truth yes no less same and or not do new of + - * .").split()
OPERATORS = ("+", "-", "*", "less", "same", "and", "or")


def rows_of(text):
    """Rows of words from a text written down; / parts them."""
    return [row.split() for row in text.split("/")]


def read(text):
    return read_plain(rows_of(text))


def fault(rows):
    """(at, what) of the refusal, None where there is none."""
    try:
        read_plain(rows)
    except NoForm as refused:
        return refused.at, refused.what
    return None


class Reads(unittest.TestCase):
    def refuse(self, text, at, what):
        """text: rows parted by /, or rows."""
        rows = rows_of(text) if isinstance(text, str) else text
        before = copy.deepcopy(rows)
        with self.assertRaises(NoForm, msg=text) as caught:
            read_plain(rows)
        self.assertEqual((caught.exception.at, caught.exception.what), (at, what), text)
        self.assertEqual(rows, before)

    def expr(self, text, due):
        """The EXPR of the words is due, in each row that has one."""
        self.assertEqual(read("tell " + text), [("tell", 0, due)], text)
        self.assertEqual(read("set x " + text), [("set", 0, "x", due)], text)
        self.assertEqual(read("if " + text + "/end"), [("if", 0, due, [], [])], text)
        self.assertEqual(read("while " + text + "/end"), [("while", 0, due, [])], text)
        self.assertEqual(read("def f num/give " + text + "/end"), [("def", 0, "f", "num", (), [("give", 1, due)])], text)

    def no_expr(self, text):
        """The words are no EXPR in any row that has one."""
        self.refuse("tell " + text, 0, "form")
        self.refuse("set x " + text, 0, "form")
        self.refuse("if " + text + "/end", 0, "form")
        self.refuse("tell 1/while " + text + "/end", 1, "form")
        self.refuse("def f num/give " + text + "/end", 1, "form")


class Expressions(Reads):
    def test_numbers(self):
        self.expr("0", ("num", 0))
        for number in (1, 9, 10, 205, 10 ** 17, 10 ** 18 - 1, 123456789012345678):
            self.expr(str(number), ("num", number))
        self.assertIs(read("tell 7")[0][2][1].__class__, int)

    def test_numbers_too_long_or_with_a_0_ahead(self):
        for word in (str(10 ** 18), "9" * 19, "1" * 30, "00", "01", "000", "0123", "0" * 18):
            self.no_expr(word)

    def test_what_is_no_number(self):
        for word in ("-1", "+1", "1.0", "1_0", "1e3", "x1", "1x", "0x1", "1,", "1."):
            self.no_expr(word)

    def test_truths(self):
        self.expr("yes", ("truth", "yes"))
        self.expr("no", ("truth", "no"))

    def test_names(self):
        for word in list("abcdefghijklmnopqrstuvwxyz") + ["ab", "abcdefgh", "zzzzzzzz", "kinds", "sett", "nums", "yess", "ofof"]:
            self.expr(word, ("name", word))

    def test_what_is_no_name(self):
        for word in ("abcdefghi", "zzzzzzzzzz", "X", "xY", "x_", "_x", "x1", "x-", "!", "~", "<a", ">", "x.", "..", "++"):
            self.no_expr(word)
            self.refuse(f"set {word} 1", 0, "form")
            self.refuse(f"kind {word}", 0, "form")
            self.refuse(f"kind k {word} num", 0, "form")
            self.refuse(f"def {word} num/end", 0, "form")
            self.refuse(f"def f {word}/end", 0, "form")
            self.refuse(f"def f num {word} num/end", 0, "form")
            self.refuse(f"def f num x {word}/end", 0, "form")
            self.no_expr(f"do {word} .")
            self.no_expr(f"new {word} .")
            self.no_expr(f"of {word} x")

    def test_words_of_the_language_as_names(self):
        for word in WORDS:
            if word not in ("yes", "no"):
                self.no_expr(word)
            self.no_expr(f"do {word} .")
            self.no_expr(f"new {word} .")
            self.no_expr(f"of {word} x")
            self.refuse(f"set {word} 1", 0, "form")
            self.refuse(f"kind {word}", 0, "form")
            self.refuse(f"kind k {word} num", 0, "form")
            self.refuse(f"def {word} num/end", 0, "form")
            self.refuse(f"def f num {word} num/end", 0, "form")

    def test_operators(self):
        for word in OPERATORS:
            self.expr(f"{word} 1 x", (word, ("num", 1), ("name", "x")))
            self.expr(f"{word} {word} 1 2 3", (word, (word, ("num", 1), ("num", 2)), ("num", 3)))
            self.expr(f"{word} 1 {word} 2 3", (word, ("num", 1), (word, ("num", 2), ("num", 3))))
            for text in (word, f"{word} 1", f"{word} 1 2 3", f"{word} 1 .", f"1 {word} 2", f"{word} {word} 1 2"):
                self.no_expr(text)

    def test_not(self):
        self.expr("not yes", ("not", ("truth", "yes")))
        self.expr("not not x", ("not", ("not", ("name", "x"))))
        self.expr("and not x no", ("and", ("not", ("name", "x")), ("truth", "no")))
        for text in ("not", "not x y", "not .", "not not"):
            self.no_expr(text)

    def test_do_and_new(self):
        for word in ("do", "new"):
            self.expr(f"{word} f .", (word, "f", ()))
            self.expr(f"{word} f 1 .", (word, "f", (("num", 1),)))
            self.expr(f"{word} f x yes 3 .", (word, "f", (("name", "x"), ("truth", "yes"), ("num", 3))))
            self.expr(f"{word} f + 1 2 not x .",
                      (word, "f", (("+", ("num", 1), ("num", 2)), ("not", ("name", "x")))))
            self.expr(f"{word} f do g . new h 1 . 2 .",
                      (word, "f", (("do", "g", ()), ("new", "h", (("num", 1),)), ("num", 2))))
            self.expr(f"- {word} f . 1", ("-", (word, "f", ()), ("num", 1)))
            many = " ".join(str(number) for number in range(90))
            self.expr(f"{word} f {many} .", (word, "f", tuple(("num", number) for number in range(90))))
            for text in (word, f"{word} .", f"{word} f", f"{word} f 1", f"{word} f 1 2", f"{word} f . .", f"{word} f . 1",
                         f"{word} 1 .", f"{word} f + 1 .", f"{word} f {word} g .", f"{word} f set .", f"{word} yes .",
                         f"{word} f ,"):
                self.no_expr(text)

    def test_of(self):
        self.expr("of a x", ("of", "a", ("name", "x")))
        self.expr("of a of b x", ("of", "a", ("of", "b", ("name", "x"))))
        self.expr("of a new k 1 .", ("of", "a", ("new", "k", (("num", 1),))))
        for text in ("of", "of a", "of a b c", "of 1 x", "of a .", "of a x .", "of of a x"):
            self.no_expr(text)

    def test_no_words(self):
        for text in ("", ".", "set x 1", "tell 1", "num", "truth"):
            self.no_expr(text)

    def test_six_and_seven_deep(self):
        for begin, end in (("not", ""), ("of a", ""), ("+ 1", ""), ("+", "1"), ("do f", "."), ("new k", "."),
                           ("do f 1", "2 ."), ("less x", ""), ("or", "x")):
            for inner in ("1", "x", "yes", "do f .", "new k ."):
                for deep in range(1, 10):
                    text = f"{begin} " * (deep - 1) + inner + f" {end}" * (deep - 1)
                    if deep <= 6:
                        self.assertIsNone(fault([["tell"] + text.split()]), text)
                    else:
                        self.no_expr(text)

    def test_one_side_deep(self):
        deepest = "not " * 5 + "x"
        self.assertIsNone(fault(rows_of(f"tell and {deepest[4:]} {deepest[4:]}")))
        self.no_expr(f"and x {deepest}")
        self.no_expr(f"and {deepest} x")
        self.no_expr(f"do f 1 {deepest} 2 .")
        self.no_expr(f"new f {deepest} .")
        self.no_expr("not " * 95 + "x")
        self.no_expr("do f " * 45 + ". " * 45)

    def test_as_deep_in_each_row(self):
        six, seven = "not " * 5 + "x", "not " * 6 + "x"
        for row in ("tell", "set x", "if", "while", "give"):
            self.assertIsNone(fault(rows_of(f"def f num/{row} {six}" + ("/end/end" if row in ("if", "while") else "/end"))))
            self.refuse(f"def f num/{row} {seven}/end", 1, "form")

    def test_some_nested_ones(self):
        chance = random.Random(15)
        for count in range(1500):
            e = some_expr(chance, 6)
            words = words_of_expr(e)
            if len(words) < 100:
                self.assertEqual(read_plain([["tell"] + words]), [("tell", 0, e)])
                self.assertEqual(fault([["tell"] + words[:-1]]), (0, "form"))
                self.assertEqual(fault([["tell"] + words + ["x"]]), (0, "form"))

    def test_all_short_ones(self):
        words = ("1", "x", "yes", "+", "not", "do", "of", ".", "end")
        due = all_exprs(5)
        for length in range(6):
            for chosen in itertools.product(words, repeat=length):
                told = fault([["tell"] + list(chosen)])
                self.assertEqual(told, None if chosen in due else (0, "form"), chosen)


def some_expr(chance, deep):
    """Some e of point 18, nested at most so deep."""
    form = chance.choice(["num", "truth", "name", "do", "new"] if deep == 1 else ["num", "name", "not", "of"] + 2 * ["+", "do", "new"])
    name = chance.choice(["x", "abcdefgh", "f"])
    if form == "num":
        return form, chance.choice([0, 1, 10 ** 18 - 1])
    if form == "truth":
        return form, chance.choice(["yes", "no"])
    if form == "name":
        return form, name
    if form == "not":
        return form, some_expr(chance, deep - 1)
    if form == "of":
        return form, name, some_expr(chance, deep - 1)
    if form == "+":
        return chance.choice(OPERATORS), some_expr(chance, deep - 1), some_expr(chance, deep - 1)
    many = chance.randrange(3) if deep > 1 else 0
    return form, name, tuple(some_expr(chance, deep - 1) for count in range(many))


def words_of_expr(e):
    if e[0] in ("num", "truth", "name"):
        return [str(e[1])]
    if e[0] in ("do", "new"):
        return [e[0], e[1]] + [word for part in e[2] for word in words_of_expr(part)] + ["."]
    out = [e[0]]
    for part in e[1:]:
        out.extend([part] if isinstance(part, str) else words_of_expr(part))
    return out


def all_exprs(most):
    """All EXPRs of at most so many words among 1 x yes + not do of . by the forms of point 15."""
    by_length = {0: [], 1: [("1",), ("x",), ("yes",)]}
    runs = {0: [()]}
    for length in range(2, most + 1):
        for size in range(1, length):
            runs[size] = [one + rest for ahead in range(1, size + 1) for one in by_length[ahead] for rest in runs[size - ahead]]
        found = [("not",) + one for one in by_length[length - 1]]
        found.extend(("of", "x") + one for one in by_length[length - 2])
        for ahead in range(1, length - 1):
            found.extend(("+",) + one + other for one in by_length[ahead] for other in by_length[length - 1 - ahead])
        if length >= 3:
            found.extend(("do", "x") + run + (".",) for run in runs[length - 3])
        by_length[length] = found
    return {chosen for found in by_length.values() for chosen in found}


class Rows(Reads):
    def test_no_rows_and_rows_without_words(self):
        self.assertEqual(read_plain([]), [])
        self.assertEqual(read_plain([[]]), [])
        self.assertEqual(read_plain([[], [], []]), [])
        self.assertEqual(read("/tell 1//tell 2/"), [("tell", 1, ("num", 1)), ("tell", 3, ("num", 2))])
        self.assertEqual(read("if x//else//end"), [("if", 0, ("name", "x"), [], [])])

    def test_kind(self):
        self.assertEqual(read("kind k"), [("kind", 0, "k", ())])
        self.assertEqual(read("kind k x num"), [("kind", 0, "k", (("x", "num"),))])
        self.assertEqual(read("/kind k x num y truth k num"),
                         [("kind", 1, "k", (("x", "num"), ("y", "truth"), ("k", "num")))])
        many = [(first + second, "num") for first in "abcdefg" for second in "xyz"]
        words = [word for pair in many for word in pair]
        self.assertEqual(read_plain([["kind", "k"] + words]), [("kind", 0, "k", tuple(many))])

    def test_kind_of_no_form(self):
        for text in ("kind", "kind k x", "kind k x num y", "kind k num", "kind k x y", "kind k x k", "kind k x yes",
                     "kind k x num truth", "kind k x num x num", "kind k x num y truth x truth", "kind k 1 num",
                     "kind k x num .", "kind k end", "kind 1", "kind k x num y num y num"):
            self.refuse(text, 0, "form")

    def test_def(self):
        self.assertEqual(read("def f num/end"), [("def", 0, "f", "num", (), [])])
        self.assertEqual(read("def f truth x num/end"), [("def", 0, "f", "truth", (("x", "num"),), [])])
        self.assertEqual(read("//def f k x k f truth z other/tell x/give z/end/tell 1"), [
            ("def", 2, "f", "k", (("x", "k"), ("f", "truth"), ("z", "other")),
             [("tell", 3, ("name", "x")), ("give", 4, ("name", "z"))]),
            ("tell", 6, ("num", 1))])

    def test_def_of_no_form(self):
        for text in ("def", "def f", "def f 1", "def f num x", "def f num x num y", "def f num num", "def f num x yes",
                     "def f set", "def f num x num x num", "def f num x num y k x k", "def 1 num", "def f num x 1",
                     "def f num 1 num", "def f num .", "def f num x num num", "def f num x end"):
            self.refuse(text + "/end", 0, "form")

    def test_set_tell_give(self):
        self.assertEqual(read("set x 1"), [("set", 0, "x", ("num", 1))])
        self.assertEqual(read("set x + x 1/tell x"),
                         [("set", 0, "x", ("+", ("name", "x"), ("num", 1))), ("tell", 1, ("name", "x"))])
        self.assertEqual(read("def f num/give 1/give 2/end"),
                         [("def", 0, "f", "num", (), [("give", 1, ("num", 1)), ("give", 2, ("num", 2))])])
        for text in ("set", "set x", "set 1", "set x 1 2", "set 1 1", "set x set", "tell", "tell 1 2", "tell x .", "tell tell 1"):
            self.refuse(text, 0, "form")
        for text in ("give", "give 1 2", "give give 1", "give ."):
            self.refuse("def f num/" + text + "/end", 1, "form")

    def test_if(self):
        yes, one, two = ("truth", "yes"), ("tell", 1, ("num", 1)), ("tell", 3, ("num", 2))
        self.assertEqual(read("if yes/end"), [("if", 0, yes, [], [])])
        self.assertEqual(read("if yes/tell 1/end"), [("if", 0, yes, [one], [])])
        self.assertEqual(read("if yes/tell 1/else/end"), [("if", 0, yes, [one], [])])
        self.assertEqual(read("if yes/tell 1/else/tell 2/end"), [("if", 0, yes, [one], [two])])
        self.assertEqual(read("if yes///tell 2/end"), [("if", 0, yes, [two], [])])
        self.assertEqual(read("if yes//else/tell 2/end"), [("if", 0, yes, [], [two])])
        for text in ("if", "if yes no", "if if yes", "if ."):
            self.refuse(text + "/end", 0, "form")

    def test_while(self):
        self.assertEqual(read("while no/end"), [("while", 0, ("truth", "no"), [])])
        self.assertEqual(read("while x/tell 1/set x no/end/tell x"), [
            ("while", 0, ("name", "x"), [("tell", 1, ("num", 1)), ("set", 2, "x", ("truth", "no"))]),
            ("tell", 4, ("name", "x"))])
        for text in ("while", "while yes no", "while end"):
            self.refuse(text + "/end", 0, "form")

    def test_else_and_end_stand_alone(self):
        self.refuse("if yes/else 1/end", 1, "form")
        self.refuse("if yes/else if yes/end", 1, "form")
        self.refuse("if yes/end 1", 1, "form")
        self.refuse("if yes/end if", 1, "form")
        self.refuse("if yes/end end", 1, "form")

    def test_blocks_in_one_another(self):
        x = ("name", "x")
        self.assertEqual(read("if x/if x/tell 2/else/tell 4/end/else/while x/tell 8/end/tell 10/end/tell 12"), [
            ("if", 0, x,
             [("if", 1, x, [("tell", 2, ("num", 2))], [("tell", 4, ("num", 4))])],
             [("while", 7, x, [("tell", 8, ("num", 8))]), ("tell", 10, ("num", 10))]),
            ("tell", 12, ("num", 12))])
        self.assertEqual(read("while x/if x/end/end"), [("while", 0, x, [("if", 1, x, [], [])])])
        self.assertEqual(read("def f num/while x/if x/give 1/else/give 2/end/end/give 3/end"), [
            ("def", 0, "f", "num", (), [
                ("while", 1, x, [("if", 2, x, [("give", 3, ("num", 1))], [("give", 5, ("num", 2))])]),
                ("give", 8, ("num", 3))])])

    def test_an_else_behind_a_block_that_is_ended(self):
        x = ("name", "x")
        self.assertEqual(read("if x/while x/end/else/end"), [("if", 0, x, [("while", 1, x, [])], [])])
        self.assertEqual(read("if x/if x/else/end/else/tell x/end"),
                         [("if", 0, x, [("if", 1, x, [], [])], [("tell", 5, x)])])

    def test_any_other_row(self):
        for text in ("x", "1", "yes", "num", ".", "+ 1 2", "do f .", "Tell 1", "tel 1", "telll 1", "TELL 1", "<a", ">",
                     "kind=", "new k .", "of a x", "not yes", "x tell 1", "!"):
            self.refuse(text, 0, "form")
            self.refuse("tell 1//" + text, 2, "form")


class Refused(Reads):
    def test_place_of_kind_and_def(self):
        for begin in ("if yes", "while yes", "def f num", "if yes/else", "if yes/while yes"):
            at = begin.count("/") + 1
            for row in ("kind k", "kind k x num", "def g num", "def g num x k"):
                self.refuse(f"{begin}/{row}", at, "place")
                self.refuse(f"{begin}/tell 1//{row}/end", at + 2, "place")
        self.assertIsNone(fault(rows_of("if yes/end/kind k/while yes/end/def f num/end/kind k/def f num/end")))

    def test_place_of_give(self):
        self.refuse("give 1", 0, "place")
        self.refuse("if yes/give 1/end", 1, "place")
        self.refuse("while yes/if yes/else/give 1", 3, "place")
        self.refuse("def f num/end/give 1", 2, "place")
        self.refuse("def f num/if yes/give 1/end/end/if yes/give 1/end", 6, "place")
        self.assertIsNone(fault(rows_of("def f num/if yes/while yes/if yes/give 1/else/give 2/end/end/end/end")))

    def test_place_of_if_and_while(self):
        for blocks in itertools.product(("if yes", "while yes", "if yes/else"), repeat=4):
            begin = "/".join(blocks)
            at = begin.count("/") + 1
            self.assertIsNone(fault(rows_of(begin + "/tell 1/set x 1" + "/end" * 4)))
            for row in ("if yes", "while yes"):
                self.refuse(f"{begin}/{row}", at, "place")
                self.refuse(f"{begin}/end/{row}/end/{row}/{row}", at + 4, "place")

    def test_a_def_counts(self):
        for blocks in itertools.product(("if yes", "while yes"), repeat=3):
            begin = "def f num/" + "/".join(blocks)
            self.assertIsNone(fault(rows_of(begin + "/give 1" + "/end" * 4)))
            for row in ("if yes", "while yes"):
                self.refuse(f"{begin}/{row}", 4, "place")

    def test_stray_end(self):
        self.refuse("end", 0, "stray")
        self.refuse("tell 1//end", 2, "stray")
        for block in ("if yes", "while yes", "def f num", "if yes/else", "if yes/if yes/end"):
            self.refuse(f"{block}/end/end", block.count("/") + 2, "stray")

    def test_stray_else(self):
        self.refuse("else", 0, "stray")
        self.refuse("tell 1/else/end", 1, "stray")
        self.refuse("while yes/else/end", 1, "stray")
        self.refuse("def f num/else/end", 1, "stray")
        self.refuse("if yes/else/else/end", 2, "stray")
        self.refuse("if yes/else/tell 1//else/end", 4, "stray")
        self.refuse("if yes/while yes/else/end/end", 2, "stray")
        self.refuse("if yes/else/while yes/else/end/end", 3, "stray")
        self.refuse("if yes/end/else", 2, "stray")
        self.refuse("if yes/else/if yes/end/else/end", 4, "stray")

    def test_open(self):
        for text in ("if yes", "while yes", "def f num", "if yes/else", "if yes/tell 1", "def f num/give 1",
                     "if yes/if yes/end", "while yes/while yes/end//", "tell 1/if yes/", "if yes/end/if yes//tell 2"):
            self.refuse(text, text.count("/") + 1, "open")

    def test_form_ahead_of_place_and_stray_in_one_row(self):
        self.refuse("if yes/kind", 1, "form")
        self.refuse("if yes/def f/end", 1, "form")
        self.refuse("give", 0, "form")
        self.refuse("give 1 2", 0, "form")
        self.refuse("if 1/if 1/if 1/if 1/if/end", 4, "form")
        self.refuse("end 1", 0, "form")
        self.refuse("else 1", 0, "form")

    def test_the_first_wrong_row_is_told(self):
        wrong = {"tell": "form", "give 1": "place", "end": "stray", "else": "stray", "x": "form"}
        for (one, first), (other, second) in itertools.product(wrong.items(), wrong.items()):
            self.refuse(f"{one}/{other}", 0, first)
            self.refuse(f"tell 1//{one}/if yes/{other}", 2, first)
            self.refuse(f"if yes/end/{other}/{one}", 2, second)
        self.refuse("if yes/kind k/tell", 1, "place")
        self.refuse("if yes/tell/kind k", 1, "form")
        self.refuse("if yes/while yes/tell", 2, "form")
        self.refuse("while yes/if yes/else/else", 3, "stray")

    def test_fields_of_the_refusal(self):
        with self.assertRaises(NoForm) as caught:
            read("tell 1/tell")
        self.assertIs(caught.exception.at.__class__, int)
        self.assertIs(caught.exception.what.__class__, str)

    def test_all_short_programs(self):
        rows = ("kind k", "def f num", "give 1", "if x", "while x", "else", "end", "tell", "")
        for length in range(6):
            for chosen in itertools.product(rows, repeat=length):
                self.check([row.split() for row in chosen])

    def test_some_long_programs(self):
        chance = random.Random(17)
        rows = ["kind k x num", "def f num x num", "give x", "set x 1", "tell x", "", "else"] + 3 * ["if x", "while x"] + 5 * ["end"]
        for count in range(3000):
            chosen = []
            while len(chosen) < 25:
                row = chance.choice(rows).split()
                told = due_fault(chosen + [row])
                # Mostly rows that may stand here, so that long ones come about.
                if told is None or told[1] == "open" or chance.random() < 0.01:
                    chosen.append(row)
            self.check(chosen)
            self.check(chosen + [["end"]] * chance.randrange(5))

    def check(self, rows):
        due = due_fault(rows)
        self.assertEqual(fault(rows), due, rows)
        if due is None:
            told = []
            written(read_plain(rows), told)
            self.assertEqual([words for at, words in told], without_nothing(rows), rows)
            for at, words in told:
                if at is not None:
                    self.assertEqual(rows[at], words)
            ats = [at for at, words in told if at is not None]
            self.assertEqual(ats, sorted(set(ats)))


def due_fault(rows):
    """Point 17 for rows that are right by themselves, but tell without an EXPR; blocks as one text of letters."""
    within = ""
    for at, row in enumerate(rows):
        word = row[0] if row else ""
        if row == ["tell"]:
            return at, "form"
        if (word in ("kind", "def") and within or word == "give" and "d" not in within
                or word in ("if", "while") and len(within) == 4):
            return at, "place"
        if word == "end" and not within or word == "else" and not within.endswith("i"):
            return at, "stray"
        if word == "end":
            within = within[:-1]
        elif word == "else":
            within = within[:-1] + "e"
        elif word in ("def", "if", "while"):
            within += word[0]
    return (len(rows), "open") if within else None


def written(statements, out):
    """The rows of a tree, (at, words); at is None for else and end, which it does not tell."""
    for one in statements:
        if one[0] == "kind":
            out.append((one[1], ["kind", one[2]] + [word for pair in one[3] for word in pair]))
        elif one[0] == "def":
            out.append((one[1], ["def", one[2], one[3]] + [word for pair in one[4] for word in pair]))
            written(one[5], out)
            out.append((None, ["end"]))
        elif one[0] == "set":
            out.append((one[1], ["set", one[2]] + words_of_expr(one[3])))
        else:
            out.append((one[1], [one[0]] + words_of_expr(one[2])))
        if one[0] in ("if", "while"):
            written(one[3], out)
            if one[0] == "if" and one[4]:
                out.append((None, ["else"]))
                written(one[4], out)
            out.append((None, ["end"]))


def without_nothing(rows):
    """The rows, but those without words and each else that has nothing behind it."""
    kept = [row for row in rows if row]
    return [row for place, row in enumerate(kept) if row != ["else"] or kept[place + 1] != ["end"]]


class Kinds(Reads):
    def test_tuples_and_lists(self):
        kind, func, choice, loop = read("kind k x num/def f num y k/if x/end/end/if x/tell 1/end/while x/end")
        for one in (kind, func, choice, loop, func[5][0]):
            self.assertIs(one.__class__, tuple)
        for pairs in (kind[3], func[4]):
            self.assertIs(pairs.__class__, tuple)
            self.assertIs(pairs[0].__class__, tuple)
        for body in (func[5], choice[3], choice[4], loop[3], func[5][0][3], func[5][0][4]):
            self.assertIs(body.__class__, list)
        told = read("tell do f + 1 x . ")[0][2]
        for e in (told, told[2], told[2][0], told[2][0][1]):
            self.assertIs(e.__class__, tuple)


class Own(Reads):
    TEXT = "kind k x num/def f num y k/give of x y/end//if yes/tell 1/else/while no/set x 2/end/end"

    def test_the_rows_handed_in_stay(self):
        rows = rows_of(self.TEXT)
        before = copy.deepcopy(rows)
        read_plain(rows)
        self.assertEqual(rows, before)

    def test_what_is_done_to_the_rows_behind_the_call(self):
        rows = rows_of(self.TEXT)
        told = read_plain(rows)
        before = copy.deepcopy(told)
        for row in rows:
            row.append("more")
            row[0] = "tell"
        rows.clear()
        self.assertEqual(told, before)

    def test_a_list_told_and_changed_changes_nothing(self):
        rows = rows_of(self.TEXT)
        told = read_plain(rows)
        due = copy.deepcopy(told)
        told[1][5].clear()
        told[2][3].append(("tell", 0, ("num", 9)))
        told[2][4][0][3].clear()
        told[2][4].append(told[0])
        told.clear()
        self.assertEqual(read_plain(rows), due)
        self.assertEqual(rows, rows_of(self.TEXT))

    def test_each_list_is_its_own(self):
        tree = read("if x/end/if x/else/end/while x/end/def f num/end/def f num/end")
        lists = [tree, tree[0][3], tree[0][4], tree[1][3], tree[1][4], tree[2][3], tree[3][5], tree[4][5]]
        self.assertEqual(len({id(one) for one in lists}), len(lists))

    def test_a_refusal_changes_nothing(self):
        due = read(self.TEXT)
        self.refuse("if yes/tell 1", 2, "open")
        self.refuse("def f num/else", 1, "stray")
        self.assertEqual(read(self.TEXT), due)
        self.assertEqual(read("tell 1"), [("tell", 0, ("num", 1))])


if __name__ == "__main__":
    unittest.main()
