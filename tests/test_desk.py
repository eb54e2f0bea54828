"""Point 39, and of point 2 what holds for desks."""

import random
import re
import unittest

from manymakes.desk import Desk
from manymakes.errors import MakesError, NoGroup, NoOrder, NoSet, NoWish, TooMany
from programs import (
    LETTERS, Machine, cut_by_hand, due_faults, full, grouped_row, held, holding, kinds_text, mask_of, read_by_hand, run_text,
    shown_by_hand, some_wish, tidied_by_hand, whole_cut,
)

NUMBER = "(0|[1-9][0-9]{0,5})"
MOST = "(0|[1-9][0-9]?|[123][0-9][0-9]|400)"
FORMS = [
    "(switches) " + NUMBER, "(rule) ([!-~]*)", "(row) (.*)", "(text)", "(wish) ([!-~]*)", "(cut) " + NUMBER, "(dead)", "(lonely)",
    "(faults)", f"(run) {NUMBER} {MOST}", "(runs) " + MOST, "(tidy)", "(keep)", "(part)",
]
# What tells all that a desk holds, but for what is kept.
ASKED = ("text", "wish 1", "wish a", "dead", "lonely", "faults", "runs 20", "cut 0")
WIDE = "tell <a 1 > <b 2 > <c 3 > <d 4 > <e 5 >"


def end_of_wish(text, at, n):
    """The place behind the WISH that begins at a place, None where there is none."""
    sign = text[at:at + 1]
    if sign in ("0", "1") or sign and sign in LETTERS[:n]:
        return at + 1
    if sign == "?" and text[at + 1:at + 2] not in tuple(LETTERS[:n]):
        return None
    many = {"!": 1, "&": 2, "|": 2, "^": 2, "?": 3}.get(sign)
    at = at + 1 if many else None
    for count in range(many or 0):
        at = end_of_wish(text, at, n) if at is not None else None
    return at


def is_wish(text, n):
    return end_of_wish(text, 0, n) == len(text) > 0


def is_right(row, n):
    """Points 10 to 12 for one row."""
    deep = 0
    for word in row.split(" ") if row else []:
        deep += word.startswith("<") - (word == ">")
        if not word or "\n" in word or not 0 <= deep <= 5 or word.startswith("<") and not is_wish(word[1:], n):
            return False
    return deep == 0


def said(desk, row):
    """What a desk answers; a refusal is told as its class and its at, None where it has none."""
    try:
        told = desk.say(row)
    except MakesError as refused:
        return refused.__class__, getattr(refused, "at", None)
    assert told.__class__ is list and all(text.__class__ is str for text in told), told
    return told


class Model:
    """A desk by the words of point 39: all that it answers is reckoned by hand, setting by setting."""

    def __init__(self):
        self.do_switches(0)

    def say(self, row):
        """The answer, or a refusal as said tells it."""
        for form in FORMS:
            found = re.fullmatch(form, row, re.DOTALL)
            if found:
                word, *given = found.groups()
                if word in ("switches", "cut", "run", "runs"):
                    given = [int(number) for number in given]
                return getattr(self, "do_" + word)(*given)
        return NoOrder, None

    def words(self, s):
        return [cut_by_hand(row, s) for row in self.rows]

    def faults(self):
        """By settings of the rule, their faults."""
        return {s: due_faults(self.words(s)) for s in held(self.rule)}

    def too_many(self):
        for at, row in enumerate(self.rows):
            if len({tuple(cut_by_hand(row, s)) for s in held(self.rule)}) > 16:
                return TooMany, at
        return None

    def standing(self, many):
        """The numbers of the rows with plain words, some of which stand in so many settings of the rule."""
        found = []
        for at, row in enumerate(self.rows):
            if read_by_hand(row, self.n) and sum(cut_by_hand(row, s) != [] for s in held(self.rule)) == many:
                found.append(str(at))
        return found

    def do_switches(self, n):
        if n > 6:
            return NoSet, None
        self.n, self.rule, self.rows, self.kept = n, full(n), [], None
        return []

    def do_rule(self, wish):
        if not is_wish(wish, self.n):
            return NoWish, None
        self.rule = mask_of([s for s in range(2 ** self.n) if holding(wish, s)])
        return []

    def do_row(self, text):
        if len(self.rows) == 60:
            return TooMany, 60
        if not is_right(text, self.n):
            return NoGroup, len(self.rows)
        self.rows.append(text)
        return []

    def do_text(self):
        return self.rows[:] or [""]

    def do_wish(self, wish):
        if not is_wish(wish, self.n):
            return NoWish, None
        shown = shown_by_hand(mask_of([s for s in range(2 ** self.n) if holding(wish, s)]), self.n)
        some = [s for s in held(self.rule) if holding(wish, s)]
        return [f"{shown} {len(some)} {some[0] if some else 'none'}"]

    def do_cut(self, s):
        if s >= 2 ** self.n:
            return NoSet, None
        return [" ".join(words) for words in self.words(s)] or [""]

    def do_dead(self):
        return self.standing(0)

    def do_lonely(self):
        return self.standing(1)

    def do_faults(self):
        due = {}
        for s, faults in self.faults().items():
            for fault in faults:
                due.setdefault(fault, []).append(s)
        return self.too_many() or [
            f"{at} {what} {name or '-'} {len(some)} {some[0]}" for (at, what, name), some in sorted(due.items())]

    def do_run(self, s, most):
        if self.too_many() or self.faults().get(s) != []:
            return self.too_many() or (NoSet, None)
        outcome, told, log = Machine(self.words(s), most).answer()
        return [" ".join([outcome, str(len(log))] + [str(value) for value in told])]

    def do_runs(self, most):
        parts = {}
        for s, faults in self.faults().items():
            if faults == []:
                outcome, told, log = Machine(self.words(s), most).answer()
                parts.setdefault((outcome, len(log)) + told, []).append(s)
        return self.too_many() or [" ".join(map(str, (some[0], len(some)) + part)) for part, some in parts.items()]

    def do_tidy(self):
        self.rows = [tidied_by_hand(row, self.n, self.rule) for row in self.rows]
        return []

    def do_keep(self):
        self.kept = "\n".join(self.rows)
        return []

    def do_part(self):
        if self.kept is None:
            return NoOrder, None
        text = "\n".join(self.rows)
        unlike = [s for s in held(self.rule) if whole_cut(self.kept, s) != whole_cut(text, s)]
        return [str(unlike[0]) if unlike else "alike"]


NO_ORDER, NO_SET, NO_WISH = (NoOrder, None), (NoSet, None), (NoWish, None)

NO_FORMS = (
    # The row without signs, blanks alone, and first words that there are not.
    "", " ", "  ", "\n", "x", "quit", "help", "tex", "texts", "rows x", "rowx", "row\tx", "row\nx", "cuts 0", "runner 1",
    # Capital letters.
    "Text", "TEXT", "Switches 1", "SWITCHES 1", "Rule 1", "Row x", "ROW", "Wish 1", "Cut 0", "Dead", "Run 0 1", "RUNS 1", "Part",
    # A word more.
    "text text", "dead 1", "lonely x", "faults 0", "tidy tidy", "keep text", "part 0", "switches 1 2", "rule 1 1", "wish 1 0",
    "cut 0 0", "run 0 1 2", "runs 0 0",
    # A word less.
    "switches", "rule", "row", "wish", "cut", "run", "run 0", "runs",
    # A blank too many, or none where one is due.
    " text", "text ", "dead ", " dead", "lonely ", "faults ", "tidy ", "keep ", "part ", "switches ", "switches  1", "switches 1 ",
    " switches 1", "rule  1", "rule 1 ", "rule  ", "wish  1", "wish 1 ", "wish  ", "cut ", "cut  0", "cut 0 ", "run  0 1", "run 0  1",
    "run 0 1 ", "run 0 ", "run ", "runs ", "runs  1", "runs 1 ", " row x", "switches1", "cut0", "run0 1", "run 01",
    # Numbers with a 0 ahead, of seven figures, and what is no number.
    "switches 00", "switches 01", "switches 1000000", "switches 0000001", "switches -1", "switches +1", "switches x", "switches 1.0",
    "switches 1_0", "switches 0x1", "cut 00", "cut 01", "cut 1000000", "cut 9999999", "cut -0", "cut a", "run 00 1", "run 0 00",
    "run 0 01", "run 01 1", "run 0 0400", "run 1000000 1", "run 0 1000000", "run 0 -1", "run x 1", "run 0 x", "runs 00", "runs 007",
    "runs 1000000", "runs -1", "runs x", "runs 1.",
    # More steps than there may be.
    "run 0 401", "run 0 1000", "run 0 999999", "runs 401", "runs 500", "runs 999999", "run 999999 401",
    # Line feeds, and what else is no sign of a word, but for a TEXT.
    "rule 1\n", "rule \n", "rule\n1", "rule 1\t", "wish \n1", "wish 1\n0", "wish \t", "text\n", "\ntext", "switches 1\n", "switches\n1", "cut 0\n", "run 0 1\n", "runs 1\n", "dead\ndead", "part\n",
)


class Checked(unittest.TestCase):
    def go(self, *script):
        """Says rows to a new desk, each of the script's tuples (row, answer); tells the desk."""
        desk = Desk()
        for row, due in script:
            self.assertEqual(said(desk, row), due, row)
        return desk

    def desk(self, *rows):
        """A desk to which these rows were said, none of which has an answer."""
        return self.go(*[(row, []) for row in rows])

    def asked(self, desk):
        return [said(desk, row) for row in ASKED]


class ByHand(Checked):
    def test_a_new_desk(self):
        self.go(("text", [""]), ("cut 0", [""]), ("cut 1", NO_SET), ("wish 1", ["1 1 0"]), ("wish 0", ["0 0 none"]), ("wish a", NO_WISH),
                ("dead", []), ("lonely", []), ("faults", []), ("run 0 0", ["done 0"]), ("run 1 0", NO_SET), ("runs 400", ["0 1 done 0"]),
                ("part", NO_ORDER), ("tidy", []), ("text", [""]), ("keep", []), ("part", ["alike"]), ("text", [""]))

    def test_rows(self):
        self.go(("switches 1", []), ("row tell <a + 1 > x", []), ("row ", []), ("row x", []), ("text", ["tell <a + 1 > x", "", "x"]),
                ("cut 0", ["tell x", "", "x"]), ("cut 1", ["tell + 1 x", "", "x"]), ("cut 2", NO_SET))
        self.go(("row ", []), ("text", [""]), ("row x", []), ("text", ["", "x"]), ("row ", []), ("text", ["", "x", ""]))

    def test_a_row_of_many_words(self):
        words = " ".join(str(count) for count in range(100))
        self.go(("row " + words, []), ("text", [words]), ("cut 0", [words]))

    def test_rules_and_wishes(self):
        self.go(("switches 2", []), ("wish &ab", ["?a?b100 1 3"]), ("wish ^ab", ["?a?b01?b10 2 1"]), ("rule a", []),
                ("wish &ab", ["?a?b100 1 3"]), ("wish b", ["?b10 1 3"]), ("wish !b", ["?b01 1 1"]), ("wish &!ab", ["?a0?b10 0 none"]),
                ("wish 1", ["1 2 1"]), ("wish |a!a", ["1 2 1"]), ("rule b", []), ("wish 1", ["1 2 2"]), ("rule 0", []),
                ("wish 1", ["1 0 none"]), ("rule ?a!b0", []), ("wish 1", ["1 1 1"]), ("rule 1", []), ("wish 1", ["1 4 0"]))

    def test_the_rule_is_over_the_switches_that_there_are(self):
        self.go(("rule a", NO_WISH), ("switches 1", []), ("rule a", []), ("wish 1", ["1 1 1"]), ("rule b", NO_WISH),
                ("wish 1", ["1 1 1"]), ("switches 3", []), ("wish 1", ["1 8 0"]), ("rule c", []), ("wish 1", ["1 4 4"]),
                ("switches 1", []), ("wish c", NO_WISH), ("wish 1", ["1 2 0"]))

    def test_wishes_that_are_none(self):
        for wish in ("", "2", "&a", "ab", "!", "?ab", "?1ab", "c", "A", "10", ">", "<a", "a\\", "&ab1"):
            self.go(("switches 2", []), ("rule a", []), ("wish " + wish, NO_WISH), ("rule " + wish, NO_WISH), ("wish 1", ["1 2 1"]))

    def test_dead_and_lonely(self):
        self.go(("switches 2", []), ("row <0 x >", []), ("row <&ab x >", []), ("row <a >", []), ("row ", []), ("row x", []), ("row <a x >", []),
                ("dead", ["0"]), ("lonely", ["1"]), ("rule !b", []), ("dead", ["0", "1"]), ("lonely", ["5"]), ("rule &ab", []),
                ("dead", ["0"]), ("lonely", ["1", "4", "5"]), ("rule 0", []), ("dead", ["0", "1", "4", "5"]), ("lonely", []))

    def test_faults(self):
        desk = self.go(("switches 2", []), ("row <a tell + x y >", []), ("row tell + 1 yes", []), ("row <&ab end >", []),
                       ("faults", ["0 unset x 1 1", "0 unset y 1 1", "1 kind - 2 0", "2 stray - 1 3"]), ("rule a", []),
                       ("faults", ["0 unset x 1 1", "0 unset y 1 1", "2 stray - 1 3"]), ("rule b", []),
                       ("faults", ["1 kind - 1 2", "2 stray - 1 3"]), ("rule 0", []), ("faults", []), ("rule 1", []))
        self.assertEqual(said(desk, "row <b if yes >"), [])
        self.assertEqual(said(desk, "faults")[-1], "4 open - 1 2")

    def test_run_and_runs(self):
        desk = self.desk("switches 2", "row set x <a 1 > <!a 0 >", "row while less x 2", "row set x + x 1", "row end", "row tell x",
                         "row <b tell same x 2 >")
        for row, due in (
                ("run 0 400", ["done 7 2"]), ("run 1 400", ["done 5 2"]), ("run 2 400", ["done 8 2 yes"]), ("run 3 400", ["done 6 2 yes"]),
                ("run 0 7", ["done 7 2"]), ("run 0 6", ["long 6"]), ("run 2 7", ["long 7 2"]), ("run 0 0", ["long 0"]),
                ("runs 400", ["0 1 done 7 2", "1 1 done 5 2", "2 1 done 8 2 yes", "3 1 done 6 2 yes"]),
                ("runs 5", ["0 2 long 5", "1 1 done 5 2", "3 1 long 5 2"]), ("runs 0", ["0 4 long 0"]), ("run 4 400", NO_SET)):
            self.assertEqual(said(desk, row), due, row)

    def test_runs_of_unlike_outcomes(self):
        self.go(("switches 2", []), ("row def f num", []), ("row give do f .", []), ("row end", []), ("row tell yes", []),
                ("row <&a!b tell do f . >", []), ("row if no", []), ("row set y 1", []), ("row end", []), ("row <&ab tell y >", []),
                ("row tell 999999999999999999", []), ("runs 400", ["0 2 done 3 yes 999999999999999999", "1 1 deep 8 yes", "3 1 unset 3 yes"]),
                ("run 1 400", ["deep 8 yes"]), ("run 3 400", ["unset 3 yes"]), ("run 2 400", ["done 3 yes 999999999999999999"]),
                ("rule a", []), ("runs 400", ["1 1 deep 8 yes", "3 1 unset 3 yes"]), ("run 0 400", NO_SET), ("rule 0", []), ("runs 400", []))

    def test_run_of_a_setting_that_is_not_sound(self):
        for row in ("end", "tell", "if yes", "tell x", "tell + 1 yes", "set x new k .", "while 1"):
            self.go(("switches 2", []), ("row tell 1", []), (f"row <a {row} >", []), ("run 0 9", ["done 1 1"]), ("run 1 9", NO_SET),
                    ("run 2 9", ["done 1 1"]), ("run 3 9", NO_SET), ("run 4 9", NO_SET), ("run 999999 9", NO_SET), ("runs 9", ["0 2 done 1 1"]),
                    ("rule &!ab", []), ("run 0 9", NO_SET), ("run 2 9", ["done 1 1"]), ("runs 9", ["2 1 done 1 1"]), ("rule a", []), ("runs 9", []))

    def test_tidy(self):
        self.go(("switches 2", []), ("row <a <b x > y >", []), ("row ", []), ("row <a x > <!!a y > <0 z >", []), ("tidy", []),
                ("text", ["<?a?b100 x > <?a10 y >", "", "<?a10 x y >"]), ("rule a", []), ("tidy", []), ("text", ["<?a?b100 x > y", "", "x y"]),
                ("tidy", []), ("text", ["<?a?b100 x > y", "", "x y"]), ("cut 0", ["y", "", "x y"]), ("rule 0", []), ("tidy", []),
                ("text", ["", "", ""]), ("row x", []), ("text", ["", "", "", "x"]))

    def test_tidy_without_rows(self):
        for rule in ("1", "0"):
            self.go((f"rule {rule}", []), ("tidy", []), ("row x", []), ("text", ["x"]))

    def test_keep_and_part(self):
        self.go(("switches 2", []), ("row x <&ab y >", []), ("part", NO_ORDER), ("keep", []), ("part", ["alike"]), ("row <a >", []), ("part", ["0"]),
                ("rule b", []), ("part", ["2"]), ("rule 0", []), ("part", ["alike"]), ("rule 1", []), ("keep", []), ("part", ["alike"]),
                ("rule !&ab", []), ("tidy", []), ("text", ["x", ""]), ("part", ["alike"]), ("rule 1", []), ("part", ["3"]), ("rule a", []),
                ("part", ["3"]), ("rule !b", []), ("part", ["alike"]), ("switches 2", []), ("part", NO_ORDER), ("keep", []), ("part", ["alike"]))

    def test_keep_without_rows(self):
        self.go(("keep", []), ("row ", []), ("part", ["alike"]), ("row ", []), ("part", ["0"]))
        self.go(("keep", []), ("row x", []), ("part", ["0"]), ("keep", []), ("part", ["alike"]))

    def test_what_is_kept_stays_as_it_was(self):
        self.go(("switches 1", []), ("row <a x >", []), ("keep", []), ("rule a", []), ("tidy", []), ("rule 1", []), ("text", ["x"]),
                ("part", ["0"]), ("tidy", []), ("part", ["0"]), ("rule a", []), ("part", ["alike"]))

    def test_switches(self):
        desk = self.desk("switches 1", "rule a", "row <a x >", "keep", "switches 1")
        for row, due in (("text", [""]), ("wish 1", ["1 2 0"]), ("part", NO_ORDER), ("dead", []), ("row y", []), ("text", ["y"])):
            self.assertEqual(said(desk, row), due)
        for n in range(7):
            self.go((f"switches {n}", []), ("wish 1", [f"1 {2 ** n} 0"]), (f"cut {2 ** n - 1}", [""]), (f"cut {2 ** n}", NO_SET),
                    (f"row <{LETTERS[n]} x >", (NoGroup, 0)))
        for n in (7, 8, 10, 64, 999999):
            self.go(("switches 2", []), ("row x", []), ("rule b", []), ("keep", []), (f"switches {n}", NO_SET), ("text", ["x"]),
                    ("wish b", ["?b10 2 2"]), ("part", ["alike"]))


class Refused(Checked):
    def some_desks(self):
        """Desks in many states, and what they hold."""
        yield self.desk()
        yield self.desk("switches 2", "rule a", "row tell <a x > <!a 1 >", "row tell 1", "keep")
        yield self.desk("switches 5", "row tell 1", "row " + WIDE, "row tell 2")
        yield self.desk(*["row tell 1"] * 60)

    def check(self, desk, row, due):
        before = self.asked(desk)
        part = said(desk, "part")
        self.assertEqual(said(desk, row), due, row)
        self.assertEqual(self.asked(desk), before, row)
        self.assertEqual(said(desk, "part"), part, row)

    def test_no_form(self):
        for desk in self.some_desks():
            before = self.asked(desk)
            for row in NO_FORMS:
                self.assertEqual(said(desk, row), NO_ORDER, row)
            self.assertEqual(self.asked(desk), before)

    def test_no_text(self):
        for desk in self.some_desks():
            for row in (None, 0, 1, True, False, [], ["text"], ("text",), {}, {"text": 1}, b"text", 1.5, object(), Desk()):
                self.assertEqual(said(desk, row), NO_ORDER)
            self.check(desk, None, NO_ORDER)

    def test_no_form_ahead_of_all_else(self):
        for rows, row in ((["row x"] * 60, "row"), (["switches 5", "row " + WIDE], "run 0 401"), (["switches 5", "row " + WIDE], "runs 401"),
                          (["switches 5", "row " + WIDE], "run 99 "), (["switches 5", "row " + WIDE], "faults 1"), ([], "cut 5 5"),
                          ([], "switches 7 7"), ([], "rule z z"), ([], "wish z "), ([], "rule  z")):
            self.check(self.desk(*rows), row, NO_ORDER)

    def test_sixty_rows(self):
        for rows in (["x"] * 60, [""] * 60):
            desk = self.desk("switches 2", *["row " + row for row in rows])
            for row in ("x", "", ">", "x  y", "<c x >", "x\ny", "<a x"):
                self.check(desk, "row " + row, (TooMany, 60))
            self.assertEqual(said(desk, "text"), rows)
            self.assertEqual((said(desk, "tidy"), said(desk, "row x")), ([], (TooMany, 60)))
            self.assertEqual((said(desk, "switches 2"), said(desk, "row x"), said(desk, "text")), ([], [], ["x"]))
        desk = self.desk(*["row x"] * 59)
        self.check(desk, "row >", (NoGroup, 59))
        self.assertEqual((said(desk, "row y"), said(desk, "row y")), ([], (TooMany, 60)))
        self.assertEqual(said(desk, "text"), ["x"] * 59 + ["y"])

    def test_wrong_rows(self):
        for row in ("x  y", " x", "x ", " ", "  ", ">", "x >", "<a x", "<c x >", "< x >", "<ab x >", "<a " * 6 + "x" + " >" * 6,
                    "\n", "x\n", "\nx", "x\ny", "<a x >\n<b y >", "x\n>"):
            for above in (0, 1, 7):
                self.check(self.desk("switches 2", *["row tell 1"] * above), "row " + row, (NoGroup, above))
        self.go(("switches 2", []), ("row " + "<a " * 5 + "x" + " >" * 5, []))

    def test_no_settings(self):
        for n in range(7):
            for s in (2 ** n, 2 ** n + 1, 64, 100, 999999):
                desk = self.desk(f"switches {n}", "row tell 1")
                self.check(desk, f"cut {s}", NO_SET)
                self.check(desk, f"run {s} 5", NO_SET)

    def test_cut_asks_for_no_rule(self):
        self.go(("switches 1", []), ("row <a x > <!a y >", []), ("rule a", []), ("cut 0", ["y"]), ("rule 0", []), ("cut 1", ["x"]))

    def test_too_many_cuts(self):
        desk = self.desk("switches 5", "row end", "row " + WIDE, "row " + WIDE)
        for row in ("faults", "run 0 5", "run 99 5", "run 999999 400", "runs 5", "runs 0"):
            self.check(desk, row, (TooMany, 1))
        for row in ("dead", "lonely", "text", "cut 0", "wish a", "keep", "part", "tidy"):
            self.assertIs(said(desk, row).__class__, list)
        self.check(desk, "runs 5", (TooMany, 1))
        for row, due in (("rule e", []), ("faults", ["0 stray - 16 16"]), ("run 16 5", NO_SET), ("runs 5", []), ("rule |e&a&b&cd", []),
                         ("faults", (TooMany, 1)), ("rule 0", []), ("faults", []), ("runs 5", []), ("run 0 5", NO_SET)):
            self.assertEqual(said(desk, row), due, row)


class Many(Checked):
    def some_row(self, chance, n, rows):
        """A row that can be said; most of them are of a form."""
        wish = some_wish(chance, n) if chance.random() < 0.9 else chance.choice(("", "z", "&a", "ab", "1 ", " 1", "0 1"))
        s = chance.randrange(2 ** n) if chance.random() < 0.8 else chance.choice((2 ** n, 77, 999999, "01", "", "x"))
        most = chance.choice((0, 1, 2, 5, 10, 20, 50, 100, 400)) if chance.random() < 0.9 else chance.choice((401, "07", ""))
        way = chance.random()
        if rows and way > 0.6:
            return "row " + rows.pop(0)
        if way < 0.06:
            # What can't be read takes all further runs away, so it is rare.
            right = grouped_row(chance, n) if chance.random() < 0.1 else chance.choice(("", "tell 1", "<1 tell 2 >", "<0 tell >"))
            return "row " + (right if chance.random() < 0.6 else chance.choice(("<a x", ">", "x  y", "x\ny", " ", "<z x >")))
        return chance.choice((f"rule {wish}", f"rule {wish}", f"wish {wish}", "text", f"cut {s}", "dead", "lonely", "faults", f"run {s} {most}",
                              f"runs {most}", "tidy", "keep", "part", "part", chance.choice(NO_FORMS)))

    def session(self, chance, n, text, many):
        """Says so many rows to a desk, and asks what it holds behind what is refused; tells what was answered, by first words."""
        desk, model, seen = Desk(), Model(), []
        rows = text.split("\n")
        begin = [f"switches {n}"]
        if chance.random() < 0.6:
            # With all its rows there, the text can be run.
            begin, rows = begin + ["row " + row for row in rows], []
        for row in begin + [self.some_row(chance, n, rows) for count in range(many)]:
            told = said(desk, row)
            self.assertEqual(told, model.say(row), (text, row))
            refused = told.__class__ is tuple
            seen.append((row.partition(" ")[0], told[0] if refused else None))
            for again in ASKED if refused and chance.random() < 0.3 else []:
                self.assertEqual(said(desk, again), model.say(again), (text, row, again))
        return seen

    def test_many_sessions(self):
        seen = []
        for n in range(4):
            chance = random.Random(n)
            for count in range((25, 30, 30, 20)[n]):
                text = chance.choice((run_text, lambda chance, n: run_text(chance, n, 2), kinds_text))(chance, n)
                seen += self.session(chance, n, text, chance.choice((10, 40, 120)))
        for word in "switches rule row text wish cut dead lonely faults run runs tidy keep part".split():
            self.assertGreater(seen.count((word, None)), 20, word)
        for pair in (("row", NoGroup), ("rule", NoWish), ("wish", NoWish), ("cut", NoSet), ("run", NoSet), ("part", NoOrder), ("cut", NoOrder)):
            self.assertGreater(seen.count(pair), 5, pair)

    def test_more_switches(self):
        for n in (4, 5, 6):
            chance = random.Random(n)
            for count in range(3):
                self.session(chance, n, run_text(chance, n, 1), 40)

    def test_whole_texts(self):
        """All rows of a text that is sound in some settings, then all that can be asked of it."""
        for n in range(4):
            chance = random.Random(39 + n)
            parts = 0
            for count in range(12):
                desk, model = Desk(), Model()
                rows = run_text(chance, n, count % 3).split("\n")
                asked = ["keep", "faults", "dead", "lonely", "runs 400", f"runs {chance.randrange(60)}", "tidy", "part", "text", "runs 400", "faults",
                         f"rule {some_wish(chance, n)}", "faults", "runs 400", "tidy", "part", "text", "rule 1", "part"]
                asked += [f"run {s} 400" for s in range(2 ** n)] + [f"cut {s}" for s in range(2 ** n)]
                for row in [f"switches {n}"] + ["row " + row for row in rows] + asked:
                    told = said(desk, row)
                    self.assertEqual(told, model.say(row), row)
                    parts += row == "runs 400" and len(told) > 1
            if n > 0:
                self.assertGreater(parts, 5)


class Own(Checked):
    def test_two_desks(self):
        one, other = Desk(), Desk()
        for desk, row in ((one, "switches 1"), (other, "switches 2"), (one, "row <a x >"), (other, "rule b"), (one, "keep"), (other, "row y")):
            self.assertEqual(said(desk, row), [])
        for desk, row, due in (
                (one, "text", ["<a x >"]), (other, "text", ["y"]), (one, "wish 1", ["1 2 0"]), (other, "wish 1", ["1 2 2"]),
                (other, "part", NO_ORDER), (one, "part", ["alike"]), (one, "switches 7", NO_SET), (one, "switches 0", []), (other, "text", ["y"]),
                (other, "wish b", ["?b10 2 2"]), (one, "text", [""]), (Desk(), "text", [""])):
            self.assertEqual(said(desk, row), due, row)

    def test_lists_of_their_own(self):
        desk = self.desk("switches 1", "row tell x", "row <a tell + 1 yes >", "row <0 tell 1 >", "row <a tell 2 >", "keep")
        for row in ("text", "cut 0", "dead", "lonely", "faults", "wish a", "runs 5", "part", "keep", "rule 1", "tidy", "switches 1"):
            before = self.asked(desk)
            told = desk.say(row)
            due = list(told)
            told.append("more")
            told[0] = "less"
            if row not in ("tidy", "switches 1"):
                self.assertEqual(self.asked(desk), before, row)
            self.assertEqual(desk.say(row), due, row)

    def test_two_lists_without_answers_are_apart(self):
        desk = Desk()
        first = desk.say("keep")
        first.append("more")
        self.assertEqual((desk.say("keep"), desk.say("dead"), desk.say("faults")), ([], [], []))

    def test_asking_changes_nothing(self):
        desk = self.desk("switches 2", "rule a", "row tell <b 1 > <!b x >", "row <&ab tell yes >", "keep")
        before = self.asked(desk)
        for count in range(3):
            for row in ASKED + ("part", "run 3 9", "runs 0", "cut 3"):
                said(desk, row)
            self.assertEqual(self.asked(desk), before)


if __name__ == "__main__":
    unittest.main()
