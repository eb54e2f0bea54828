"""Points 29 to 32, and of point 2 what holds for the plain run."""

import copy
import random
import sys
import unittest

from manymakes.kinds import plain_kinds
from manymakes.names import plain_names
from manymakes.plainread import read_plain
from manymakes.plainrun import run_plain
from manymakes.texts import cut_rows, read_rows
from programs import Machine, run_text

MOST = 10 ** 18 - 1


def tree_of(text):
    """The tree of a plain text without faults; / parts its rows."""
    tree = read_plain([row.split() for row in text.split("/")])
    faults = plain_names(tree) or plain_kinds(tree)
    assert not faults, (text, faults)
    return tree


def run(text, most=400):
    return run_plain(tree_of(text), most)


def told(text):
    """What a text tells that is run to its end."""
    outcome, values, log = run(text)
    assert outcome == "done", (text, outcome)
    return values


def value(e):
    return told("tell " + e)[0]


class Numbers(unittest.TestCase):
    def test_sums(self):
        for left, right, due in ((0, 0, 0), (1, 2, 3), (MOST, 0, MOST), (0, MOST, MOST), (MOST, 1, 0), (1, MOST, 0), (MOST, 2, 1),
                                 (MOST - 1, 1, MOST), (MOST, MOST, MOST - 1), (5 * 10 ** 17, 5 * 10 ** 17, 0)):
            self.assertEqual(value(f"+ {left} {right}"), due, (left, right))

    def test_differences(self):
        for left, right, due in ((0, 0, 0), (7, 5, 2), (5, 7, MOST - 1), (0, 1, MOST), (0, MOST, 1), (1, MOST, 2), (MOST, 0, MOST),
                                 (MOST, MOST, 0), (MOST, 1, MOST - 1), (1, 2, MOST)):
            self.assertEqual(value(f"- {left} {right}"), due, (left, right))

    def test_products(self):
        for left, right, due in ((0, MOST, 0), (6, 7, 42), (MOST, 1, MOST), (MOST, 2, MOST - 1), (MOST, MOST, 1), (10 ** 9, 10 ** 9, 0),
                                 (10 ** 17, 10, 0), (10 ** 17, 9, 9 * 10 ** 17), (10 ** 17, 11, 10 ** 17), (10 ** 9 + 1, 10 ** 9, 10 ** 9),
                                 (123456789, 987654321, 121932631112635269), (999999999999, 999999999, 999998999000000001)):
            self.assertEqual(value(f"* {left} {right}"), due, (left, right))

    def test_what_comes_round_goes_on(self):
        self.assertEqual(value("+ - 0 1 1"), 0)
        self.assertEqual(value("* - 0 2 - 0 3"), 6)
        self.assertEqual(value("less - 0 1 0"), "no")
        self.assertEqual(value("same + 999999999999999999 1 0"), "yes")
        self.assertEqual(told("set x 0/set x - x 1/set x - x 1/tell x/set x + x 2/tell x"), (MOST - 1, 0))

    def test_kinds_of_values(self):
        for e, due in (("7", int), ("+ 1 2", int), ("yes", str), ("less 1 2", str)):
            self.assertIs(value(e).__class__, due)
        self.assertEqual(told("tell 0/tell no/tell 999999999999999999"), (0, "no", MOST))

    def test_less_and_same(self):
        for left in (0, 1, 2, MOST - 1, MOST):
            for right in (0, 1, 2, MOST - 1, MOST):
                self.assertEqual(value(f"less {left} {right}"), "yes" if left < right else "no")
                self.assertEqual(value(f"same {left} {right}"), "yes" if left == right else "no")

    def test_truths(self):
        for left, right, both, either in (("no", "no", "no", "no"), ("no", "yes", "no", "yes"), ("yes", "no", "no", "yes"),
                                          ("yes", "yes", "yes", "yes")):
            self.assertEqual(value(f"and {left} {right}"), both)
            self.assertEqual(value(f"or {left} {right}"), either)
        self.assertEqual((value("not yes"), value("not no"), value("not not no")), ("no", "yes", "no"))
        self.assertEqual(value("and or no not no not and yes less 2 1"), "yes")


class Parts(unittest.TestCase):
    """All parts of an EXPR are reckoned, left to right."""

    BEGIN = "def f truth x num/tell x/give no/end/def g num x num/tell x/give x/end/"

    def test_also_where_the_first_one_decides(self):
        for e in ("and no do f 1 .", "or yes do f 1 .", "and do f 1 . no", "or do f 1 . yes", "and yes do f 1 .", "or no do f 1 ."):
            self.assertEqual(run(self.BEGIN + "tell " + e)[1:], ((1, "yes" if "or" in e and "yes" in e else "no"), [8, 1, 2]), e)
        self.assertEqual(run(self.BEGIN + "tell * 0 do g 1 .")[1:], ((1, 0), [8, 5, 6]))

    def test_left_to_right(self):
        for e, due in (("+ do g 1 . do g 2 .", (1, 2, 3)), ("- do g 1 . do g 1 .", (1, 1, 0)), ("* do g 3 . do g 2 .", (3, 2, 6)),
                       ("less do g 1 . do g 2 .", (1, 2, "yes")), ("same do g 2 . do g 1 .", (2, 1, "no")),
                       ("and do f 1 . do f 2 .", (1, 2, "no")), ("or do f 2 . do f 1 .", (2, 1, "no")),
                       ("+ do g 1 . + do g 2 . do g 3 .", (1, 2, 3, 6)), ("+ + do g 1 . do g 2 . do g 3 .", (1, 2, 3, 6))):
            self.assertEqual(told(self.BEGIN + "tell " + e), due)

    def test_ahead_of_a_do_and_a_new(self):
        self.assertEqual(told(self.BEGIN + "tell do g do g do g 1 . . ."), (1, 1, 1, 1))
        self.assertEqual(told(self.BEGIN + "def h num x num y num/tell 0/give - x y/end/tell do h do g 9 . do g 4 . ."), (9, 4, 0, 5))
        self.assertEqual(told(self.BEGIN + "kind k a num b truth/tell of b new k do g 9 . do f 4 . ."), (9, 4, "no"))

    def test_the_run_ends_in_the_second_part(self):
        unset = "if no/set y yes/set z 1/end/"
        for e in ("and no y", "or yes y", "and yes y", "or no y", "and y no", "less 1 z", "same z 1"):
            self.assertEqual(run(unset + "tell 7/tell " + e + "/tell 8"), ("unset", (7,), [0, 4, 5]), e)
        deep = "def d truth/give do d ./end/"
        for e in ("and no do d .", "or yes do d .", "or yes and no do d ."):
            self.assertEqual(run(deep + "tell 7/tell " + e + "/tell 8"), ("deep", (7,), [3, 4, 1, 1, 1, 1, 1, 1]), e)
        endless = "def d truth/while yes/end/give yes/end/"
        for e in ("and no do d .", "or yes do d ."):
            self.assertEqual(run(endless + "tell 7/tell " + e + "/tell 8", 6), ("long", (7,), [5, 6, 1, 1, 1, 1]), e)

    def test_the_run_ends_in_the_first_part(self):
        for e in ("and y do f 1 .", "or y do f 1 .", "and and y yes do f 1 ."):
            self.assertEqual(run(self.BEGIN + "if no/set y yes/end/tell " + e), ("unset", (), [8, 11]), e)
        self.assertEqual(run(self.BEGIN + "if no/set y 1/end/tell + do g 2 . + y do g 3 ."), ("unset", (2,), [8, 11, 5, 6]))


class Rows(unittest.TestCase):
    def test_no_rows(self):
        self.assertEqual(run(""), ("done", (), []))
        self.assertEqual(run("//"), ("done", (), []))
        self.assertEqual(run_plain([], 0), ("done", (), []))

    def test_set_and_tell(self):
        self.assertEqual(run("set x 1/tell x//set x + x x/tell + x 1/tell not yes"), ("done", (1, 3, "no"), [0, 1, 3, 4, 5]))

    def test_kind_and_def_rows_are_no_steps(self):
        text = "kind k/def f num/give 1/end//kind p u num/def g k/give new k ./end"
        self.assertEqual(run(text, 0), ("done", (), []))
        self.assertEqual(run(text + "/tell 1/kind q/def h num/give 2/end", 1), ("done", (1,), [9]))
        self.assertEqual(run(text + "/tell 1/kind q/tell 2/def h num/give 2/end", 1), ("long", (1,), [9]))

    def test_if(self):
        text = "if {}/tell 1/tell 2/else/tell 3/end/tell 4"
        self.assertEqual(run(text.format("yes")), ("done", (1, 2, 4), [0, 1, 2, 6]))
        self.assertEqual(run(text.format("no")), ("done", (3, 4), [0, 4, 6]))
        text = "if {}/tell 1/end/tell 2"
        self.assertEqual(run(text.format("yes")), ("done", (1, 2), [0, 1, 3]))
        self.assertEqual(run(text.format("no")), ("done", (2,), [0, 3]))

    def test_if_without_rows(self):
        for words in ("yes", "no"):
            self.assertEqual(run(f"if {words}/end"), ("done", (), [0]))
            self.assertEqual(run(f"if {words}/else/end/tell 1"), ("done", (1,), [0, 3]))
            self.assertEqual(run(f"if {words}/else/tell 1/end"), ("done", (1,) if words == "no" else (), [0, 2] if words == "no" else [0]))

    def test_if_in_if(self):
        text = "if {}/if {}/tell 1/else/tell 2/end/else/if {}/tell 3/end/tell 4/end"
        for one in ("yes", "no"):
            for two in ("yes", "no"):
                due = {"yesyes": ((1,), [0, 1, 2]), "yesno": ((2,), [0, 1, 4]), "noyes": ((3, 4), [0, 7, 8, 10]), "nono": ((4,), [0, 7, 10])}
                self.assertEqual(run(text.format(one, two, two))[1:], due[one + two])

    def test_while(self):
        text = "set i 0/while less i 3/tell i/set i + i 1/end/tell 9"
        self.assertEqual(run(text), ("done", (0, 1, 2, 9), [0, 1, 2, 3, 1, 2, 3, 1, 2, 3, 1, 5]))
        self.assertEqual(run("while no/tell 1/end/tell 2"), ("done", (2,), [0, 3]))
        self.assertEqual(run("while yes/end", 5), ("long", (), [0] * 5))
        self.assertEqual(run("while yes/tell 1/end", 5), ("long", (1, 1), [0, 1, 0, 1, 0]))

    def test_its_expr_is_reckoned_each_time(self):
        text = "def f truth x num/tell x/give less x 2/end/set i 0/while do f i ./set i + i 1/end"
        self.assertEqual(run(text), ("done", (0, 1, 2), [4, 5, 1, 2, 6, 5, 1, 2, 6, 5, 1, 2]))

    def test_while_in_while(self):
        text = "set i 0/while less i 2/set j 0/while less j i/set j + j 1/end/set i + i 1/end"
        self.assertEqual(run(text)[2], [0, 1, 2, 3, 6, 1, 2, 3, 4, 3, 6, 1])

    def test_while_and_if(self):
        text = "set i 0/while less i 3/if same i 1/tell 7/else/tell i/end/set i + i 1/end"
        self.assertEqual(run(text)[1:], ((0, 7, 2), [0, 1, 2, 5, 7, 1, 2, 3, 7, 1, 2, 5, 7, 1]))

    def test_a_name_set_in_a_branch_that_was_not_run(self):
        self.assertEqual(run("if no/set x 1/end/tell 5/tell x/tell 6"), ("unset", (5,), [0, 3, 4]))
        self.assertEqual(run("if yes/tell 1/else/set x 1/end/set y x"), ("unset", (1,), [0, 1, 5]))
        self.assertEqual(run("while no/set x yes/end/while x/end"), ("unset", (), [0, 3]))
        self.assertEqual(run("if no/set x yes/end/if x/end/tell 1"), ("unset", (), [0, 3]))
        self.assertEqual(run("if no/set x 1/end/set x + x 1"), ("unset", (), [0, 3]))
        self.assertEqual(run("if yes/set x 1/end/set x + x 1/tell x"), ("done", (2,), [0, 1, 3, 4]))

    def test_the_value_that_was_given_last(self):
        self.assertEqual(told("set x 1/set y x/set x 2/tell x/tell y/if yes/set x 3/end/tell x"), (2, 1, 3))


class Bodies(unittest.TestCase):
    def test_names_of_the_main_and_of_a_def_apart(self):
        text = "set x 1/def f num/set x 5/set y 6/give x/end/tell do f ./tell x/set y 2/tell do f ./tell y"
        self.assertEqual(told(text), (5, 1, 5, 2))

    def test_names_of_each_running_apart(self):
        text = "def f num x num/if same x 1/set y 5/end/give y/end/tell do f 1 ./tell do f 2 ."
        self.assertEqual(run(text), ("unset", (5,), [6, 1, 2, 4, 7, 1, 4]))
        text = "def f num x num/set y x/if less 0 x/set z do f - x 1 ./end/give y/end/tell do f 3 ."
        self.assertEqual(told(text), (3,))

    def test_what_the_main_sets_is_not_seen(self):
        self.assertEqual(run("set y 1/def f num/if no/set y 2/end/give y/end/tell do f ."), ("unset", (), [0, 7, 2, 5]))

    def test_params(self):
        text = "def f num x num y num/set x - x y/give x/end/set x 9/set y 2/tell do f x y ./tell do f y x ./tell x"
        self.assertEqual(told(text), (7, MOST - 6, 9))
        self.assertEqual(told("def f truth x truth y num/if x/give less y 3/end/give x/end/tell do f yes 2 ./tell do f yes 3 ./tell do f no 1 ."),
                         ("yes", "no", "no"))

    def test_tells_of_a_def(self):
        text = "def f num/tell 1/tell 2/give 3/end/tell do f ./set x do f ./tell x"
        self.assertEqual(run(text), ("done", (1, 2, 3, 1, 2, 3), [5, 1, 2, 3, 6, 1, 2, 3, 7]))

    def test_a_def_below(self):
        self.assertEqual(run("tell do f 4 ./def f num x num/give + x 1/end"), ("done", (5,), [0, 2]))

    def test_give_within_blocks(self):
        text = "def f num x num/if less x 5/tell 1/give 2/tell 3/end/tell 4/give 5/end/tell do f {} ."
        self.assertEqual(run(text.format(4)), ("done", (1, 2), [9, 1, 2, 3]))
        self.assertEqual(run(text.format(5)), ("done", (4, 5), [9, 1, 6, 7]))

    def test_give_within_else(self):
        text = "def f num x truth/if x/tell 1/else/give 2/end/give 3/end/tell do f yes ./tell do f no ."
        self.assertEqual(run(text), ("done", (1, 3, 2), [8, 1, 2, 6, 9, 1, 4]))

    def test_give_within_a_while(self):
        text = "def f num x num/set i 0/while yes/if same i x/give * i 10/end/set i + i 1/end/give 1/end/tell do f 2 ."
        self.assertEqual(run(text), ("done", (20,), [10, 1, 2, 3, 6, 2, 3, 6, 2, 3, 4]))
        text = "def f num/while yes/while yes/if yes/give 3/end/end/end/give 4/end/tell do f ."
        self.assertEqual(run(text), ("done", (3,), [10, 1, 2, 3, 4]))

    def test_rows_behind_a_give(self):
        self.assertEqual(run("def f num/give 1/tell 5/give 2/end/tell do f ./tell 7"), ("done", (1, 7), [5, 1, 6]))

    def test_each_running_from_the_top(self):
        self.assertEqual(run("def f num/tell 8/give 1/end/tell + do f . do f .")[1:], ((8, 8, 2), [4, 1, 2, 1, 2]))

    def test_a_do_in_every_row(self):
        text = "def f truth x truth/give not x/end/def g truth x truth/if do f x ./set x do f x ./else/while do f do f x . ./give do f x ./end/end/give x/end/tell do g yes ./tell do g no ."
        self.assertEqual(run(text), ("done", ("no", "yes"), [13, 4, 1, 7, 1, 1, 8, 1, 14, 4, 1, 5, 1, 11]))


class Records(unittest.TestCase):
    def test_new_and_of(self):
        begin = "kind k u num v truth/kind e/"
        self.assertEqual(told(begin + "set r new k + 1 2 not yes ./tell of u r/tell of v r/set e new e ./tell of u new k 8 yes ."), (3, "no", 8))
        self.assertEqual(told(begin + "set r new k 1 yes ./set s r/set r new k 2 no ./tell of u r/tell of u s/tell of v s"), (2, 1, "yes"))

    def test_fields_by_their_places(self):
        self.assertEqual(told("kind k a num b num c num/set r new k 1 2 3 ./tell of c r/tell of a r/tell of b r"), (3, 1, 2))

    def test_fields_of_unlike_kinds(self):
        text = "kind k u num v num/kind p v num u num/set r new k 1 2 ./set s new p 1 2 ./tell of u r/tell of u s/tell of v r/tell of v s"
        self.assertEqual(told(text), (1, 2, 2, 1))

    def test_given_and_handed_on(self):
        text = "kind k u num/def f k x k/give new k + of u x 1 ./end/tell of u do f do f new k 5 . . ."
        self.assertEqual(told(text), (7,))

    def test_names_like_those_of_others(self):
        self.assertEqual(told("kind x x num/def f num x x/give of x x/end/set x new x 4 ./tell do f x ./tell of x x"), (4, 4))

    def test_a_kind_below(self):
        self.assertEqual(told("tell of u new k 1 2 ./kind k w num u num"), (2,))


class Firsts(unittest.TestCase):
    def test_the_first_def(self):
        tree = read_plain([row.split() for row in "def f num/give 1/end/def f num/give 2/end/tell do f .".split("/")])
        self.assertEqual(run_plain(tree, 400), ("done", (1,), [6, 1]))

    def test_the_first_kind(self):
        tree = read_plain([row.split() for row in "kind k u num v num/kind k v num u num/tell of u new k 1 2 .".split("/")])
        self.assertEqual(run_plain(tree, 400), ("done", (1,), [2]))


class Deep(unittest.TestCase):
    # Runs itself so many times more.
    DOWN = "def f num x num/if same x 0/give 0/end/give + 1 do f - x 1 ./end/tell 5/tell do f {} ./tell 6"

    def test_six_within_one_another(self):
        self.assertEqual(run(self.DOWN.format(5)), ("done", (5, 5, 6), [6, 7] + [1, 4] * 5 + [1, 2, 8]))

    def test_a_seventh(self):
        self.assertEqual(run(self.DOWN.format(6)), ("deep", (5,), [6, 7] + [1, 4] * 6))
        self.assertEqual(run(self.DOWN.format(300)), ("deep", (5,), [6, 7] + [1, 4] * 6))

    def test_runnings_that_are_through_do_not_count(self):
        self.assertEqual(told("def f num x num/give x/end/tell do f do f do f do f do f 1 . . . . ."), (1,))
        self.assertEqual(told("def f num/give 1/end/set i 0/while less i 20/set i + i do f ./end/tell i"), (20,))
        text = "def f num x num/if same x 0/give 1/end/give + do f - x 1 . do f - x 1 ./end/tell do f 5 ."
        self.assertEqual(told(text), (32,))

    def test_through_several_defs(self):
        chain = "/".join(f"def {a} num/give do {b} ./end" for a, b in zip("abcdef", "bcdefg"))
        self.assertEqual(run(chain + "/def g num/give 1/end/tell do b .")[:2], ("done", (1,)))
        self.assertEqual(run(chain + "/def g num/give 1/end/tell do a ."), ("deep", (), [21, 1, 4, 7, 10, 13, 16]))

    def test_the_exprs_of_a_do_are_reckoned_first(self):
        text = "def f num x num/tell x/if no/set y 1/end/if same x 5/set x y/end/give do f + x 1 ./end/tell do f 0 ."
        self.assertEqual(run(text), ("unset", (0, 1, 2, 3, 4, 5), [10] + [1, 2, 5, 8] * 5 + [1, 2, 5, 6]))
        text = "def f num x num/if no/set y 1/end/if same x 5/give do f y ./end/give do f + x 1 ./end/tell do f 0 ."
        self.assertEqual(run(text), ("unset", (), [9] + [1, 4, 7] * 5 + [1, 4, 5]))

    def test_what_stands_ahead_in_the_expr(self):
        text = "def g num x num/tell x/give x/end/def f num x num/give do f + x 1 ./end/tell + do g 7 . do f 0 ."
        self.assertEqual(run(text), ("deep", (7,), [7, 1, 2] + [5] * 6))

    def test_deep_and_not_long_where_no_row_is_to_be_run(self):
        text = "def f num/give do f ./end/tell do f ."
        self.assertEqual(run(text, 7), ("deep", (), [3] + [1] * 6))
        self.assertEqual(run(text, 6), ("long", (), [3] + [1] * 5))

    def test_calls_of_python_within_one_another(self):
        text = ("def f num x num/while yes/while yes/while yes/give + 0 + 0 + 0 + 0 do f x ./end/end/end/give 0/end/"
                "while yes/while yes/while yes/while yes/tell + 0 + 0 + 0 + 0 do f 1 ./end/end/end/end")
        tree = tree_of(text)
        before = sys.getrecursionlimit()
        depth = 0
        frame = sys._getframe()
        while frame:
            depth, frame = depth + 1, frame.f_back
        try:
            sys.setrecursionlimit(depth + 300)
            answer = run_plain(tree, 400)
        finally:
            sys.setrecursionlimit(before)
        self.assertEqual(answer, ("deep", (), [10, 11, 12, 13, 14] + [1, 2, 3, 4] * 6))


class Steps(unittest.TestCase):
    # With each outcome but long: a text, its told values and its log.
    TEXTS = (
        ("done", "set i 0/while less i 2/tell i/set i + i 1/end/tell not no", (0, 1, "yes"), [0, 1, 2, 3, 1, 2, 3, 1, 5]),
        ("deep", "def f num x num/tell x/give do f + x 1 ./end/tell 9/tell do f 0 .", (9, 0, 1, 2, 3, 4, 5), [4, 5] + [1, 2] * 6),
        ("unset", "tell 1/if no/set x 1/end/tell 2/tell + 1 x/tell 3", (1, 2), [0, 1, 4, 5]),
        ("done", "def f num x num/if less x 3/tell x/give do f + x 1 ./else/give 7/end/give 8/end/set y do f 0 ./tell y",
         (0, 1, 2, 7), [9, 1, 2, 3, 1, 2, 3, 1, 2, 3, 1, 5, 10]),
    )

    def test_as_many_as_it_takes(self):
        for outcome, text, values, log in self.TEXTS:
            for most in (len(log), len(log) + 1, 400):
                self.assertEqual(run(text, most), (outcome, values, log))

    def test_fewer(self):
        for outcome, text, values, log in self.TEXTS:
            tells = [row.split()[0] == "tell" for row in text.split("/")]
            for most in range(len(log)):
                ended, some, rows = run(text, most)
                self.assertEqual((ended, rows), ("long", log[:most]))
                self.assertEqual(some, values[:len(some)])
                # A tell whose EXPR runs a def that was not through tells nothing.
                self.assertLessEqual(len(some), sum(tells[at] for at in rows))
        self.assertEqual(run("tell 1/tell 2/tell 3", 2), ("long", (1, 2), [0, 1]))
        self.assertEqual(run("def f num/tell 5/give 6/end/tell 1/tell do f .", 3), ("long", (1, 5), [4, 5, 1]))

    def test_none(self):
        self.assertEqual(run("tell 1", 0), ("long", (), []))
        self.assertEqual(run("if no/end", 0), ("long", (), []))
        self.assertEqual(run("def f num/give 1/end", 0), ("done", (), []))
        self.assertEqual(run("", 0), ("done", (), []))

    def test_one_more_row_to_be_run_or_none(self):
        self.assertEqual(run("if yes/end", 1), ("done", (), [0]))
        self.assertEqual(run("if yes/else/tell 1/end", 1), ("done", (), [0]))
        self.assertEqual(run("if yes/tell 1/end", 1), ("long", (), [0]))
        self.assertEqual(run("while no/tell 1/end", 1), ("done", (), [0]))
        # Behind the body the while is a row to be run, whatever its EXPR is by then.
        self.assertEqual(run("set x yes/while x/set x no/end", 3), ("long", (), [0, 1, 2]))
        self.assertEqual(run("set x yes/while x/set x no/end", 4), ("done", (), [0, 1, 2, 1]))
        # Behind a give none is.
        self.assertEqual(run("def f num/give 1/tell 2/give 3/end/tell do f .", 2), ("done", (1,), [5, 1]))
        self.assertEqual(run("def f num/while yes/give 1/end/give 3/end/tell do f .", 3), ("done", (1,), [6, 1, 2]))

    def test_unset_and_not_long_where_no_row_is_to_be_run(self):
        self.assertEqual(run("if no/set x 1/end/tell x/tell 1", 2), ("unset", (), [0, 3]))
        self.assertEqual(run("if no/set x 1/end/tell x/tell 1", 1), ("long", (), [0]))
        self.assertEqual(run("if no/set x 1/end/tell + x do f ./def f num/give 1/end", 2), ("unset", (), [0, 3]))
        self.assertEqual(run("if no/set x 1/end/tell + do f . x/def f num/give 1/end", 2), ("long", (), [0, 3]))

    def test_four_hundred(self):
        count = "set i 0/while less i {}/set i + i 1/end/tell i"
        self.assertEqual(run(count.format(198)), ("done", (198,), [0] + [1, 2] * 198 + [1, 4]))
        self.assertEqual(run(count.format(199)), ("long", (), [0] + [1, 2] * 199 + [1]))
        self.assertEqual(run("while yes/end"), ("long", (), [0] * 400))
        self.assertEqual(run("def f num/while yes/tell 1/end/give 1/end/tell do f ."), ("long", (1,) * 199, [6] + [1, 2] * 199 + [1]))

    def test_the_kinds_of_the_answer(self):
        for outcome, text, values, log in self.TEXTS + (("long", "while yes/tell 1/end", (1,) * 200, [0, 1] * 200),):
            answer = run(text)
            self.assertIs(answer.__class__, tuple)
            self.assertEqual([part.__class__ for part in answer], [str, tuple, list])
            self.assertEqual(answer, (outcome, values, log))


class Many(unittest.TestCase):
    """Texts by chance, against a machine that goes by their words."""

    def check(self, words, chance):
        tree = read_plain(words)
        self.assertEqual((plain_names(tree), plain_kinds(tree)), ([], []))
        before = copy.deepcopy(tree)
        due = Machine(words, 400).answer()
        self.assertEqual(run_plain(tree, 400), due)
        many = len(due[2])
        for most in {0, 1, many, max(many - 1, 0), min(many + 1, 400), chance.randrange(many + 1), chance.randrange(many + 1)}:
            self.assertEqual(run_plain(tree, most), Machine(words, most).answer(), (words, most))
        self.assertEqual(tree, before)
        return due[0]

    def test_many_texts(self):
        seen = {}
        for n in range(4):
            chance = random.Random(n)
            for count in range((250, 120, 60, 30)[n]):
                rows = read_rows(run_text(chance, n), n)
                for s in range(2 ** n):
                    outcome = self.check(cut_rows(rows, s), chance)
                    seen[outcome] = seen.get(outcome, 0) + 1
        self.assertEqual([outcome for outcome in ("done", "long", "deep", "unset") if seen.get(outcome, 0) < 20], [], seen)

    def test_operators_of_chance_numbers(self):
        chance = random.Random(29)
        for count in range(300):
            one, other = (chance.choice((chance.randrange(10), chance.randrange(10 ** 18), 10 ** 18 - 1 - chance.randrange(10))) for side in "lr")
            for word, due in (("+", (one + other) % 10 ** 18), ("-", (one - other) % 10 ** 18), ("*", (one * other) % 10 ** 18)):
                self.assertEqual(value(f"{word} {one} {other}"), due)
            self.assertEqual(value(f"less {one} {other}"), "yes" if one < other else "no")


class Own(unittest.TestCase):
    TEXT = "kind k u num/def f num x k/give of u x/end/set i 0/while less i 2/tell do f new k i . ./set i + i 1/end"

    def test_the_tree_stays(self):
        tree = tree_of(self.TEXT)
        before = copy.deepcopy(tree)
        for most in (0, 3, 400):
            run_plain(tree, most)
            self.assertEqual(tree, before)

    def test_a_log_told_and_changed_changes_nothing(self):
        tree = tree_of(self.TEXT)
        due = run(self.TEXT)
        run_plain(tree, 400)[2].clear()
        self.assertEqual(run_plain(tree, 400), due)

    def test_what_is_done_to_the_tree_behind_the_call(self):
        tree = tree_of(self.TEXT)
        answer = run_plain(tree, 400)
        tree[3][3].clear()
        tree.clear()
        self.assertEqual(answer, ("done", (0, 1), [4, 5, 6, 2, 7, 5, 6, 2, 7, 5]))
        self.assertEqual(run_plain(tree, 400), ("done", (), []))

    def test_runs_apart(self):
        tree = tree_of("if no/set x 1/end/set y 5/tell y/tell x")
        self.assertEqual(run_plain(tree, 400), ("unset", (5,), [0, 3, 4, 5]))
        self.assertEqual(run_plain(tree, 400), ("unset", (5,), [0, 3, 4, 5]))


if __name__ == "__main__":
    unittest.main()
