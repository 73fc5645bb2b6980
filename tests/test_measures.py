"""Points 1 to 3, 9 and 26, and the interface of notekeep/measures.py."""

import copy
import itertools
import unittest
from collections import Counter

from notekeep.errors import NoLoop, NoMeasure
from notekeep.measures import measure_for
from notekeep.papers import papers_of
from notekeep.plans import loops_of, places_of, statement_at

from kit import KEPT, REFUSED, Maker, duties_by_hand, is_open, lines, terms, total, with_measure


def measure(**weights):
    return ((terms(**weights), 0, 1), 1)


def is_good(plan, place, one):
    due = duties_by_hand(with_measure(plan, place, one))
    return not any(duty[2] == place and duty[3] in ("worth", "fall") and is_open(duty) for duty in due)


def good_measures(plan, place):
    tried = itertools.product((-1, 0, 1), repeat=len(plan[0]))
    found = [measure(**dict(zip(plan[0], weights))) for weights in tried]
    return [one for one in found if is_good(plan, place, one)]


class Measures(unittest.TestCase):
    def look(self, plan, place):
        told = measure_for(plan, place)
        good = good_measures(plan, place)
        self.assertEqual(told, good[0] if good else None)
        if told is not None:
            self.assertEqual([type(told), type(told[0]), type(told[0][0]), type(told[1])], [tuple, tuple, tuple, int])
        return told

    def expect(self, expected, place, *text):
        self.assertEqual(self.look(lines(*text), place), expected)


class FoundTest(Measures):
    def test_one_name(self):
        self.expect(measure(x=1), (0,), "plan x", "while 1 x > 0", "  set x = 1 x - 1", "end")
        self.expect(measure(x=-1), (0,), "plan x", "while -1 x > 0", "  set x = 1 x + 1", "end")
        self.expect(None, (0,), "plan x", "while 1 x > 0", "  set x = 1 x over 2", "end")
        self.expect(None, (0,), "plan x", "while 1 x > 0", "end")

    def test_two_names(self):
        self.expect(measure(y=1), (0,), "plan x y", "while 1 y >= 3", "  set y = 1 y - 2", "  set x = 1 x + 5", "end")
        self.expect(measure(x=-1, y=1), (0,), "plan x y", "while -1 x + 1 y > 0", "  set x = 1 x + 1", "end")
        self.expect(measure(x=1, y=1), (0,), "plan x y", "while 1 x + 1 y > 0", "  set x = 1 x + 1", "  set y = 1 y - 2", "end")
        self.expect(None, (0,), "plan x y", "while -1 x + 1 y > 0", "  set x = 1 x + 1", "  set y = 1 y + 1", "end")

    def test_three_names(self):
        self.expect(
            measure(x=-1, y=-1, z=-1), (0,),
            "plan x y z", "while -1 x - 1 y - 1 z > 0", "  set x = 1 x + 4", "  set y = 1 y - 3", "end",
        )
        self.expect(
            measure(x=1, y=1, z=1), (0,), "plan x y z", "while 1 x + 1 y + 1 z > 0", "  set x = 1 x - 2", "  set y = 1 y + 3",
            "  set z = 1 z - 2", "end",
        )
        self.expect(measure(z=1), (0,), "plan x y z", "while 1 z > 0", "  set z = 1 z - 1", "  any x", "  set y = 1 x", "end")
        self.expect(None, (0,), "plan x y z", "while 2 x + 1 y + 1 z > 0", "  set x = 1 x - 1", "  set y = 1 y + 1", "end")

    # The first in the order told, where several would do.
    def test_the_first_of_several(self):
        text = ("plan x y", "while 1 x > 0", "  keep 1 y >= 0 and -1 x + 1 y >= 0", "  set x = 1 x - 1", "  set y = 1 y - 1", "end")
        good = good_measures(lines(*text), (0,))
        self.assertEqual(good, [measure(y=1), measure(x=1), measure(x=1, y=1)])
        self.expect(measure(y=1), (0,), *text)
        text = ("plan a b", "while 1 a > 0", "  keep 1 b >= 0", "  set a = 1 a - 3", "  set b = 1 b - 1", "end")
        self.assertIn(measure(a=1, b=-1), good_measures(lines("plan a b", "while 1 a - 1 b > 0", *text[2:]), (0,)))
        self.expect(measure(b=1), (0,), *text)

    # Where the row can't be so, all will do, and the very first is told.
    def test_a_row_that_is_never_so(self):
        self.expect(measure(x=-1), (0,), "plan x", "while 0 > 0", "end")
        self.expect(measure(x=-1, y=-1), (0,), "plan x y", "while 1 x > 0", "  keep -1 x >= 0", "end")
        self.expect(measure(x=-1, y=-1, z=-1), (0,), "plan x y z", "while 0 >= 1", "  any x", "end")

    # Where a block can't be gone through to its end, a sum without names may do.
    def test_a_sum_without_names(self):
        self.expect(
            (((), 0, 1), 1), (0,),
            "plan x y", "while 1 x + 1 y > -9", "  keep 0 >= 0", "  note 0 > 0", "  any x", "  set y = 1 x", "end",
        )

    def test_notes_that_are_needed(self):
        text = ("plan x y", "while 1 x > 0")
        self.expect(measure(x=1), (0,), *text, "  keep 1 y >= 1", "  set x = 1 x - 1 y", "end")
        self.expect(None, (0,), *text, "  keep 1 y > 0", "  set x = 1 x - 1 y", "end")
        self.expect(measure(x=1), (0,), *text, "  note 1 y >= 1", "  set x = 1 x - 1 y", "end")
        self.expect(measure(x=1), (0,), *text, "  set y = 3", "  set x = 1 x - 1 y", "end")

    # Open duties of another kind, and of another loop's measure, don't count.
    def test_other_open_duties(self):
        text = (
            "plan x y", "note 1 x > 7", "while 1 x > 0", "  keep 1 y > 5", "  set x = 1 x - 1", "  any y", "end", "while 1 y > 0",
            "  fall -1 y by 1", "end",
        )
        self.assertEqual(papers_of(lines(*text))[0], "open")
        self.expect(measure(x=1), (1,), *text)
        self.expect(None, (2,), *text)

    def test_each_way(self):
        text = ("plan x", "while 1 x > 0", "  choose", "    set x = 1 x - 1", "  or")
        self.expect(measure(x=1), (0,), *text, "    set x = 1 x - 2", "  end", "end")
        self.expect(None, (0,), *text, "    set x = 1 x + 2", "  end", "end")
        text = ("plan x y", "while 1 x + 1 y > 0", "  if 1 y >= 1")
        self.expect(measure(x=1, y=1), (0,), *text, "    set x = 1 x - 1 y", "  else", "    set x = 1 x - 1", "  end", "end")
        self.expect(None, (0,), *text, "    set x = 1 x + 1 y", "  else", "    set x = 1 x - 1", "  end", "end")

    def test_something_given(self):
        self.expect(None, (0,), "plan x", "while 1 x > 0", "  any x", "end")
        self.expect(
            measure(x=1), (0,),
            "plan x y", "while 1 x > 0", "  any y", "  if 1 y >= 1", "  else", "    set y = 1", "  end", "  set x = 1 x - 1 y", "end",
        )

    def test_the_fall_is_one(self):
        self.expect(measure(x=1), (0,), "plan x", "while 1 x > 0", "  set x = 5 x - 5 over 5", "end")
        self.expect(None, (0,), "plan x", "while 1 x > 0", "  set x = 5 x - 4 over 5", "end")

    # The worth must be nought or more without a whole: 1 x + 1 would do, 1 x does not.
    def test_a_worth_that_wants_a_whole(self):
        self.expect(None, (0,), "plan x", "while 1 x > -1", "  set x = 1 x - 1", "end")
        self.expect(measure(x=1), (0,), "plan x", "while 1 x >= 0", "  set x = 1 x - 1", "end")

    def test_a_measure_of_its_own(self):
        for own in ("fall 1 x by 1", "fall 1 x by 7", "fall -1 x over 3 by 1", "fall 5 by 1"):
            self.expect(measure(x=1), (0,), "plan x", "while 1 x > 0", f"  {own}", "  set x = 1 x - 1", "end")
            self.expect(None, (0,), "plan x", "while 1 x > 0", f"  {own}", "  set x = 1 x + 1", "end")
        self.expect(None, (0,), "plan x", "while 1 x > -1", "  fall 1 x + 1 by 1", "  set x = 1 x - 1", "end")

    def test_a_loop_within_a_choose_and_behind_another_one(self):
        text = (
            "plan x y", "choose", "  while 1 x > 0", "    set x = 1 x - 1", "  end", "or", "  set x = 2", "  while 1 y > 0",
            "    set y = 1 y - 1", "  end", "end",
        )
        self.expect(measure(x=1), (0, 0, 0), *text)
        self.expect(measure(y=1), (0, 1, 1), *text)
        text = ("plan x y", "while 1 x > 0", "end", "if 1 x > 0", "else", "  while -1 y > 0", "    set y = 1 y + 1", "  end", "end")
        self.expect(None, (0,), *text)
        self.expect(measure(y=-1), (1, 1, 0), *text)

    def test_a_loop_within_another_one(self):
        text = ("plan x y", "while 1 x > 0", "  while 1 y > 0", "    set y = 1 y - 1", "  end", "  set x = 1 x - 1", "end")
        self.expect(measure(y=1), (0, 0, 0), *text)

    def test_numbers_of_20_figures(self):
        big = 98765432109876543210
        text = ("plan x y", f"while {big} x + {big} y > {big}", f"  set x = {big} x - {big - 1} over {big}")
        self.expect(None, (0,), *text, "end")
        self.expect(measure(x=1, y=1), (0,), *text, f"  set y = {big} y - 1 over {big}", "end")


class RefusalsTest(Measures):
    def refused(self, error, plan, place):
        with self.assertRaises(error) as taken:
            measure_for(plan, place)
        self.assertIs(type(taken.exception), error)
        return vars(taken.exception)

    def test_places_at_which_no_loop_stands(self):
        plan = lines("plan x", "set x = 1", "choose", "  while 1 x > 0", "    note 1 x > 0", "  end", "or", "  any x", "end")
        for place in places_of(plan):
            if place != (1, 0, 0):
                self.assertEqual(self.refused(NoLoop, plan, place), {"place": place})
        self.assertIsNone(measure_for(plan, (1, 0, 0)))

    def test_places_that_lead_nowhere(self):
        plan = lines("plan x", "set x = 1", "while 1 x > 0", "  set x = 1 x - 1", "end")
        self.assertEqual(measure_for(plan, (1,)), measure(x=1))
        for place in ((), (2,), (-1,), (1, 0), (1, 0, 1), (1, 1), (1, 1, 0), (0, 0, 0), (1, 0, 0, 0, 0), (7, 7, 7, 7), (10 ** 9999,)):
            self.assertEqual(self.refused(NoLoop, plan, place), {"place": place})
        self.assertEqual(self.refused(NoLoop, lines("plan x"), ()), {"place": ()})
        self.assertEqual(self.refused(NoLoop, lines("plan x"), (0,)), {"place": (0,)})

    def test_a_loop_with_a_loop_in_its_block(self):
        inner = ("while 1 x > 1", "  set x = 1 x - 1", "end")
        straight = lines("plan x", "while 1 x > 0", *["  " + line for line in inner], "end")
        self.assertEqual(self.refused(NoMeasure, straight, (0,)), {"place": (0,)})
        self.assertEqual(measure_for(straight, (0, 0, 0)), measure(x=1))
        for opening, other in (("choose", "or"), ("if 1 x > 3", "else")):
            first = ["  " + opening] + ["    " + line for line in inner] + ["  " + other, "  end"]
            second = ["  " + opening, "  " + other] + ["    " + line for line in inner] + ["  end"]
            for number, block in enumerate((first, second)):
                plan = lines("plan x", "set x = 5", "while 1 x > 0", *block, "end")
                self.assertEqual(self.refused(NoMeasure, plan, (1,)), {"place": (1,)})
                self.assertEqual(self.refused(NoLoop, plan, (1, 0, 0)), {"place": (1, 0, 0)})
                self.assertEqual(self.look(plan, (1, 0, 0, number, 0)), measure(x=1))

    def test_a_plan_that_is_refused_first(self):
        for plan, error, fields in REFUSED:
            for place in ((), (0,), (1,), (5,), (0, 0, 0), (-3, 4)):
                self.assertEqual(self.refused(error, plan, place), fields)

    # The plan is refused for the one loop's measure, whichever loop is asked about.
    def test_a_refused_measure_of_the_plan(self):
        plan = (("x",), (), (("set", "x", total("x")), REFUSED[-1][0][2][1]))
        for place in ((1,), (1, 0, 0, 1, 0), (0,)):
            self.assertEqual(self.refused(NoMeasure, plan, place), {"place": (1,)})


class ManyPlansTest(Measures):
    def test_plans_of_chance(self):
        maker = Maker(61)
        found = Counter()
        for _ in range(900):
            plan = maker.plan()
            for place in loops_of(plan):
                if "'while'" in repr(statement_at(plan, place)[4]):
                    self.assertRaises(NoMeasure, measure_for, plan, place)
                else:
                    found[self.look(plan, place)] += 1
        self.assertGreater(len(found), 8, found)

    # With the measure told, the loops' rounds are bounded: it is a measure that the papers let by.
    def test_with_the_measure_told(self):
        for plan in KEPT:
            for place in loops_of(plan):
                loop = statement_at(plan, place)
                if "'while'" in repr(loop[4]):
                    continue
                told = self.look(plan, place)
                if told is not None:
                    self.assertEqual(papers_of(with_measure(plan, place, told))[0], "kept")

    def test_nothing_is_changed_and_asked_again(self):
        maker = Maker(62)
        for _ in range(150):
            plan = maker.plan()
            before = copy.deepcopy(plan)
            for place in loops_of(plan):
                if "'while'" not in repr(statement_at(plan, place)[4]):
                    told = measure_for(plan, place)
                    self.assertRaises(NoLoop, measure_for, plan, ())
                    self.assertRaises(REFUSED[0][1], measure_for, REFUSED[0][0], place)
                    self.assertEqual(measure_for(plan, place), told)
            self.assertEqual(plan, before)


if __name__ == "__main__":
    unittest.main()
