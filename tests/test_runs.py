"""Points 1 to 3, 13 and 14, and the interface of notekeep/runs.py."""

import copy
import unittest
from collections import Counter
from math import gcd

from notekeep.errors import NoMeasure, NoName, TooGreat
from notekeep.runs import run
from notekeep.sums import made

from kit import (
    ALWAYS, Maker, NEVER, add, branch, choose, fraction, least, loop, more, note, plan_of, point, put, told_by_hand, total,
)

ABOVE = more(0, x=1)
DOWN = add("x", -1)
X = total("x")


def single(*block, rows=()):
    return plan_of(*block, names=("x",), rows=rows)


# From x = 149 this loop is 299 deeds: 150 heads, 149 times its block.
LOOP_OF_299 = loop([DOWN], None, ABOVE)
AT_149 = point(x=149)


class Runs(unittest.TestCase):
    def assert_run(self, plan, start, told, turns=(), givens=()):
        """told is (word, places passed, place, point at the end)."""
        word, passed, place, end = run(plan, start, list(turns), list(givens))
        self.assertEqual((word, [one[0] for one in passed], place, end), told)

    def assert_end(self, plan, start, word, place, turns=(), givens=()):
        told = run(plan, start, list(turns), list(givens))
        self.assertEqual((told[0], told[2]), (word, place))


class WordsTest(Runs):
    def test_done(self):
        self.assert_run(single(), point(x=5), ("done", [], (), point(x=5)))
        self.assert_run(single(DOWN, DOWN), point(x=5), ("done", [], (), point(x=3)))

    def test_unmet(self):
        plan = single(note(NEVER), rows=(least(3, x=1),))
        self.assert_run(plan, point(x=2), ("unmet", [], (), point(x=2)))
        self.assert_run(plan, point(x=3), ("broken", [], (0,), point(x=3)))
        both = single(DOWN, rows=(least(3, x=1), more(-7, x=-1)))
        self.assert_run(both, point(x=3), ("done", [], (), point(x=2)))
        self.assert_run(both, point(x="5/2"), ("unmet", [], (), point(x="5/2")))
        self.assert_run(both, point(x=7), ("unmet", [], (), point(x=7)))
        self.assert_run(single(DOWN, rows=(NEVER,)), point(x=7), ("unmet", [], (), point(x=7)))

    def test_unmet_has_just_the_plans_names(self):
        told = run(single(rows=(NEVER,)), point(w=1, x=2, y=3), [], [])
        self.assertEqual(told, ("unmet", [], (), point(x=2)))

    def test_wanting_a_turn(self):
        plan = single(DOWN, choose([DOWN], [choose()]))
        self.assert_run(plan, point(x=5), ("wanting", [], (1,), point(x=4)))
        self.assert_run(plan, point(x=5), ("done", [], (), point(x=3)), turns=[0])
        self.assert_run(plan, point(x=5), ("wanting", [], (1, 1, 0), point(x=4)), turns=[1])
        self.assert_run(plan, point(x=5), ("done", [], (), point(x=4)), turns=[1, 0])

    def test_wanting_a_given(self):
        plan = plan_of(DOWN, loop([("any", "y"), DOWN], None, ABOVE), names=("x", "y"))
        start = point(x=3, y=0)
        self.assert_run(plan, start, ("wanting", [(1,)], (1, 0, 0), point(x=2, y=0)))
        self.assert_run(plan, start, ("wanting", [(1,)] * 2, (1, 0, 0), point(x=1, y=7)), givens=[(7, 1)])
        self.assert_run(plan, start, ("done", [(1,)] * 3, (), point(x=0, y="-1/2")), givens=[(7, 1), (-1, 2)])

    def test_turns_and_givens_are_taken_apart(self):
        plan = plan_of(choose([("any", "x")], []), names=("x",))
        self.assert_end(plan, point(x=0), "wanting", (0,), givens=[(1, 1)])
        self.assert_end(plan, point(x=0), "wanting", (0, 0, 0), turns=[0, 1, 1])
        self.assert_run(plan, point(x=0), ("done", [], (), point(x=9)), turns=[0], givens=[(9, 1)])

    def test_turns_and_givens_left_over(self):
        plan = plan_of(choose([("any", "x")], []), names=("x",))
        self.assert_run(plan, point(x=0), ("done", [], (), point(x=9)), turns=[0, 1, 0], givens=[(9, 1), (8, 1)])
        self.assert_run(single(DOWN), point(x=0), ("done", [], (), point(x=-1)), turns=[1], givens=[(8, 1)])

    def test_broken_at_a_note(self):
        plan = single(note(ABOVE), DOWN, note(ABOVE), DOWN)
        self.assert_run(plan, point(x=0), ("broken", [], (0,), point(x=0)))
        self.assert_run(plan, point(x=1), ("broken", [(0,)], (2,), point(x=0)))
        self.assert_run(plan, point(x=2), ("done", [(0,), (2,)], (), point(x=0)))
        for both in ((ABOVE, more(-3, x=-1)), (more(-3, x=-1), ABOVE)):
            for value, good in ((0, False), (1, True), ("5/2", True), (3, False)):
                told = ("done", [(0,)], (), point(x=value)) if good else ("broken", [], (0,), point(x=value))
                self.assert_run(single(note(*both)), point(x=value), told)

    def test_going(self):
        self.assert_run(single(loop([], None, ALWAYS)), point(x=1), ("going", [(0,)] * 300, (0,), point(x=1)))
        self.assert_run(single(loop([DOWN], None, ALWAYS)), point(x=0), ("going", [(0,)] * 150, (0,), point(x=-150)))
        told = ("going", [(1,)] * 150, (1, 0, 0), point(x=-150))
        self.assert_run(single(DOWN, loop([DOWN], None, ALWAYS)), point(x=0), told)

    def test_the_kinds_told(self):
        for told in (
            run(single(), point(x=1), [], []),
            run(single(rows=(NEVER,)), point(x=1), [], []),
            run(single(note(ALWAYS), loop([], None, ALWAYS)), point(x=1), [], []),
        ):
            self.assertIs(type(told), tuple)
            self.assertEqual([type(one) for one in told], [str, list, tuple, dict])
            for one in told[1]:
                self.assertIs(type(one), tuple)
                self.assertEqual([type(part) for part in one], [tuple, dict])


class StatementsTest(Runs):
    def test_a_set_takes_the_point_as_it_is_there(self):
        plan = plan_of(("set", "x", ((("x", 2), ("y", -1)), 1, 3)), put("y", "x"), names=("x", "y"))
        self.assert_run(plan, point(x="1/2", y="1/3"), ("done", [], (), point(x="5/9", y="5/9")))

    def test_an_if(self):
        plan = single(branch([add("x", 10)], [add("x", 20)], least(3, x=1)))
        self.assert_run(plan, point(x=3), ("done", [], (), point(x=13)))
        self.assert_run(plan, point(x="8/3"), ("done", [], (), point(x="68/3")))
        plan = single(branch([add("x", 10)], [add("x", 20)], more(3, x=1)))
        self.assert_run(plan, point(x=3), ("done", [], (), point(x=23)))

    def test_blocks_in_one_another(self):
        inner = branch([note(ALWAYS)], [note(NEVER)], least(1, x=1))
        plan = single(choose([inner], []))
        self.assert_run(plan, point(x=1), ("done", [(0, 0, 0, 0, 0)], (), point(x=1)), turns=[0])
        self.assert_run(plan, point(x=0), ("broken", [], (0, 0, 0, 1, 0), point(x=0)), turns=[0])
        plan = single(choose([], [loop([inner, DOWN], None, least(0, x=1))]))
        self.assert_run(plan, point(x=1), ("done", [], (), point(x=1)), turns=[0])
        passed = [(0, 1, 0), (0, 1, 0, 0, 0, 0, 0), (0, 1, 0)]
        self.assert_run(plan, point(x=1), ("broken", passed, (0, 1, 0, 0, 0, 1, 0), point(x=0)), turns=[1])

    def test_empty_blocks(self):
        plan = single(choose(), branch(asked=ABOVE), loop(asked=NEVER))
        for turn in (0, 1):
            for value in (-1, 1):
                self.assert_run(plan, point(x=value), ("done", [(2,)], (), point(x=value)), turns=[turn])

    def test_points_passed_are_those_of_the_moment(self):
        told = run(single(note(ALWAYS), DOWN, note(ALWAYS), loop([DOWN], None, ABOVE)), point(x=2), [], [])
        wanted = [((0,), point(x=2)), ((2,), point(x=1)), ((3,), point(x=1)), ((3,), point(x=0))]
        self.assertEqual(told, ("done", wanted, (), point(x=0)))


class HeadsTest(Runs):
    def test_a_row_that_is_not_so_at_once(self):
        self.assert_run(single(loop([DOWN], None, ABOVE)), point(x=0), ("done", [(0,)], (), point(x=0)))
        measured = single(loop([DOWN], (X, 1), ABOVE, (least(0, x=1),)), DOWN)
        self.assert_run(measured, point(x=0), ("done", [(0,)], (), point(x=-1)))

    def test_notes_are_looked_at_whether_the_row_is_so_or_not(self):
        for asked in (ALWAYS, NEVER):
            for notes in ((ABOVE,), (ABOVE, ALWAYS), (ALWAYS, ABOVE)):
                self.assert_run(single(loop([], None, asked, notes)), point(x=0), ("broken", [], (0,), point(x=0)))

    def test_notes_at_each_head(self):
        plan = single(loop([DOWN], None, more(-5, x=1), (least(-2, x=1),)))
        self.assert_run(plan, point(x=0), ("broken", [(0,)] * 3, (0,), point(x=-3)))
        plan = single(loop([DOWN], None, more(-5, x=1), (least(-5, x=1),)))
        self.assert_run(plan, point(x=0), ("done", [(0,)] * 6, (), point(x=-5)))
        plan = single(loop([DOWN], None, more(-5, x=1), (more(-5, x=1),)))
        self.assert_run(plan, point(x=0), ("broken", [(0,)] * 5, (0,), point(x=-5)))

    def test_a_worth_below_nought(self):
        measure = ((((("x", 1),), -3, 2)), 1)
        self.assert_run(single(loop([add("x", -2)], measure, ALWAYS)), point(x=2), ("broken", [], (0,), point(x=2)))
        self.assert_run(single(loop([add("x", -2)], measure, ALWAYS)), point(x=3), ("broken", [(0,)], (0,), point(x=1)))
        self.assert_run(single(loop([add("x", -2)], measure, NEVER)), point(x=-9), ("done", [(0,)], (), point(x=-9)))
        plan = single(loop([add("x", -2)], measure, least(3, x=1)))
        self.assert_run(plan, point(x=3), ("done", [(0,)] * 2, (), point(x=1)))

    def test_a_worth_of_just_nought(self):
        plan = single(loop([DOWN], (X, 1), least(0, x=1)))
        self.assert_run(plan, point(x=0), ("done", [(0,)] * 2, (), point(x=-1)))
        self.assert_run(plan, point(x="-1/1000"), ("done", [(0,)], (), point(x="-1/1000")))
        always = single(loop([DOWN], (X, 1), ALWAYS))
        self.assert_run(always, point(x="-1/1000"), ("broken", [], (0,), point(x="-1/1000")))

    def test_a_fall_just_kept_and_just_not(self):
        def falling(step, fall, by=1):
            return single(loop([step], (((("x", 1),), 0, by), fall), least(1, x=1)))

        self.assert_run(falling(add("x", -2), 2), point(x=4), ("done", [(0,)] * 3, (), point(x=0)))
        self.assert_run(falling(add("x", -2), 1), point(x=4), ("done", [(0,)] * 3, (), point(x=0)))
        self.assert_run(falling(add("x", -2), 3), point(x=4), ("broken", [(0,)], (0,), point(x=2)))
        self.assert_run(falling(add("x", -4), 2, 2), point(x=8), ("done", [(0,)] * 3, (), point(x=0)))
        self.assert_run(falling(add("x", -3), 2, 2), point(x=8), ("broken", [(0,)], (0,), point(x=5)))
        almost = ("set", "x", ((("x", 10 ** 9),), -10 ** 9 + 1, 10 ** 9))
        wanted = ("broken", [(0,)], (0,), {"x": fraction("3000000001/1000000000")})
        self.assert_run(falling(almost, 1), point(x=4), wanted)
        self.assert_run(single(loop([add("x", 1)], (X, 1), ABOVE)), point(x=4), ("broken", [(0,)], (0,), point(x=5)))
        self.assert_run(single(loop([], (X, 1), ABOVE)), point(x=4), ("broken", [(0,)], (0,), point(x=4)))

    def test_a_fall_at_the_round_that_ends_the_loop(self):
        plan = plan_of(loop([put("x"), add("y", -1)], (total("y"), 2), ABOVE), names=("x", "y"))
        self.assert_run(plan, point(x=1, y=9), ("broken", [(0,)], (0,), point(x=0, y=8)))
        plan = plan_of(loop([put("x"), add("y", -2)], (total("y"), 2), ABOVE), names=("x", "y"))
        self.assert_run(plan, point(x=1, y=9), ("done", [(0,)] * 2, (), point(x=0, y=7)))
        self.assert_run(plan, point(x=1, y=1), ("done", [(0,)] * 2, (), point(x=0, y=-1)))

    def test_a_fall_is_from_the_head_ahead_of_the_round(self):
        # x falls by 4, 3, 2, 1: always as much as y, which falls too.
        step = [("set", "x", ((("x", 1), ("y", -1)), 0, 1)), add("y", -1)]
        plan = plan_of(loop(step, (X, 2), more(0, y=1)), names=("x", "y"))
        self.assert_run(plan, point(x=20, y=4), ("broken", [(0,)] * 4, (0,), point(x=10, y=0)))
        plan = plan_of(loop(step, (X, 1), more(0, y=1)), names=("x", "y"))
        self.assert_run(plan, point(x=20, y=4), ("done", [(0,)] * 5, (), point(x=10, y=0)))

    def test_a_loop_come_to_a_second_time_from_ahead(self):
        inner = loop([add("x", -1)], (X, 1), ABOVE)
        outer = loop([inner, add("y", -1), ("set", "x", ((), 3, 1))], None, more(0, y=1))
        plan = plan_of(outer, names=("x", "y"))
        # The inner loop's worth that was known last is 1; where it is come to again it is 3.
        rounds = [(0,)] + [(0, 0, 0)] * 4
        self.assert_run(plan, point(x=3, y=2), ("done", rounds * 2 + [(0,)], (), point(x=3, y=0)))
        beside = plan_of(loop([add("x", -1)], (X, 1), ABOVE), ("set", "x", ((), 3, 1)), loop([DOWN], (X, 1), ABOVE))
        self.assert_end(beside, point(x=3, y=2, z=0), "done", ())

    def test_a_loop_come_to_again_with_its_row_not_so(self):
        inner = loop([add("x", -1)], (X, 1), ABOVE)
        plan = plan_of(loop([inner, add("y", -1)], None, more(0, y=1)), names=("x", "y"))
        passed = [(0,)] + [(0, 0, 0)] * 2 + [(0,), (0, 0, 0)] * 2 + [(0,)]
        self.assert_run(plan, point(x=1, y=3), ("done", passed, (), point(x=0, y=0)))


class DeedsTest(Runs):
    def test_just_300_deeds_and_the_end(self):
        self.assert_end(single(DOWN, LOOP_OF_299), point(x=150), "done", ())
        self.assert_end(single(LOOP_OF_299, DOWN), AT_149, "done", ())
        self.assert_end(single(LOOP_OF_299, note(ALWAYS)), AT_149, "done", ())
        self.assert_end(single(LOOP_OF_299, note(NEVER)), AT_149, "broken", (1,))
        self.assert_end(single(LOOP_OF_299, ("any", "x")), AT_149, "done", (), givens=[(1, 1)])
        self.assert_end(single(LOOP_OF_299, ("any", "x")), AT_149, "wanting", (1,))
        self.assert_end(single(LOOP_OF_299, choose()), AT_149, "done", (), turns=[1])
        self.assert_end(single(LOOP_OF_299, choose()), AT_149, "wanting", (1,))
        self.assert_end(single(LOOP_OF_299, branch(asked=ABOVE)), AT_149, "done", ())
        self.assert_end(single(LOOP_OF_299, loop(asked=NEVER)), AT_149, "done", ())
        self.assert_end(single(LOOP_OF_299, loop(asked=NEVER, notes=(NEVER,))), AT_149, "broken", (1,))

    def test_300_deeds_and_a_further_statement_of_each_sort(self):
        further = (
            DOWN, ("any", "x"), note(ALWAYS), note(NEVER), choose(), branch(asked=ABOVE), loop(asked=NEVER),
            loop(asked=NEVER, notes=(NEVER,)), loop(asked=ALWAYS, measure=((((), -1, 1)), 1)),
        )
        for statement in further:
            for turns, givens in (([], []), ([0], [(1, 1)])):
                told = run(single(LOOP_OF_299, DOWN, statement), AT_149, turns, givens)
                self.assertEqual(told[0], "going", statement)
                self.assertEqual(told[1], [((0,), point(x=149 - one)) for one in range(150)])
                self.assertEqual(told[2:], ((2,), point(x=-1)))

    def test_the_head_as_the_301st_deed_is_not_looked_at(self):
        # 1 deed, then 150 heads of which the last one is the 300th deed; the note breaks at x = -149.
        plan = single(DOWN, loop([DOWN], None, ALWAYS, (more(-149, x=1),)))
        self.assert_run(plan, point(x=2), ("going", [(1,)] * 150, (1, 0, 0), point(x=-148)))
        plan = single(loop([DOWN], None, ALWAYS, (more(-149, x=1),)))
        self.assert_run(plan, point(x=1), ("going", [(0,)] * 150, (0,), point(x=-149)))
        self.assert_run(plan, point(x=0), ("broken", [(0,)] * 149, (0,), point(x=-149)))

    def test_a_further_statement_within_blocks(self):
        plan = single(LOOP_OF_299, choose([], [DOWN]))
        self.assert_end(plan, AT_149, "going", (1, 1, 0), turns=[1])
        self.assert_end(plan, AT_149, "done", (), turns=[0])
        plan = single(LOOP_OF_299, branch([DOWN], [DOWN], ABOVE))
        self.assert_end(plan, AT_149, "going", (1, 1, 0))
        plan = single(LOOP_OF_299, loop([], None, ALWAYS))
        self.assert_run(plan, AT_149, ("going", [(0,)] * 150 + [(1,)], (1,), point(x=0)))


class RefusalsTest(unittest.TestCase):
    def assert_no_name(self, plan, start, name):
        before = copy.deepcopy(start)
        with self.assertRaises(NoName) as taken:
            run(plan, start, [], [])
        self.assertEqual(taken.exception.name, name)
        self.assertEqual(start, before)

    def test_a_start_that_lacks_a_name(self):
        plan = plan_of()
        self.assert_no_name(plan, point(y=1, z=1), "x")
        self.assert_no_name(plan, point(x=1, z=1), "y")
        self.assert_no_name(plan, point(x=1, y=1), "z")

    def test_a_start_that_lacks_several(self):
        plan = plan_of()
        self.assert_no_name(plan, {}, "x")
        self.assert_no_name(plan, point(x=1), "y")
        self.assert_no_name(plan, point(z=1, a=1), "x")

    def test_a_name_that_stands_in_no_statement(self):
        self.assert_no_name(plan_of(DOWN), point(x=1, y=1), "z")

    def test_a_start_that_lacks_a_name_and_does_not_meet_the_rows(self):
        self.assert_no_name(plan_of(rows=(NEVER,)), point(x=1, y=1), "z")
        self.assert_no_name(plan_of(rows=(more(5, x=1),)), point(x=1, y=1), "z")

    def test_a_refused_plan(self):
        with self.assertRaises(TooGreat) as taken:
            run(single(*[DOWN] * 25), point(x=1), [], [])
        self.assertEqual((taken.exception.number, taken.exception.most), (25, 24))
        with self.assertRaises(NoMeasure) as taken:
            run(single(loop([loop()], (X, 1))), point(x=1), [], [])
        self.assertEqual(taken.exception.place, (0,))
        self.assert_no_name(single(put("q")), point(x=1, q=1), "q")

    def test_a_refused_plan_and_a_start_that_lacks_a_name(self):
        with self.assertRaises(TooGreat):
            run(single(*[DOWN] * 25), {}, [], [])
        with self.assertRaises(NoMeasure):
            run(single(loop([loop()], (X, 1))), {}, [], [])
        self.assert_no_name(single(put("q")), {}, "q")

    def test_a_refused_plan_whose_starts_would_be_unmet(self):
        self.assert_no_name(single(put("q"), rows=(NEVER,)), point(x=1), "q")

    def test_a_refused_statement_that_would_not_be_done(self):
        self.assert_no_name(single(choose([], [put("q")])), point(x=1), "q")

    def test_behind_a_refusal_as_ahead_of_it(self):
        plan = single(DOWN, note(ALWAYS))
        before = run(plan, point(x=1), [], [])
        self.assert_no_name(plan, {}, "x")
        self.assertEqual(run(plan, point(x=1), [], []), before)


class OwnTest(unittest.TestCase):
    def test_a_start_with_more_names(self):
        told = run(single(DOWN, note(ALWAYS)), point(a=4, x=1, y=2), [], [])
        self.assertEqual(told, ("done", [((1,), point(x=0))], (), point(x=0)))

    def test_each_point_is_a_dict_of_its_own(self):
        start = point(x=1)
        told = run(single(note(ALWAYS), note(ALWAYS), loop([], None, NEVER, ())), start, [], [])
        points = [start] + [one[1] for one in told[1]] + [told[3]]
        self.assertEqual(len({id(one) for one in points}), 5)
        for one in points[1:]:
            one["x"] = (9, 1)
            one["y"] = (9, 1)
        self.assertEqual(start, point(x=1))
        for word, plan in (("done", single()), ("unmet", single(rows=(NEVER,))), ("broken", single(note(NEVER)))):
            told = run(plan, start, [], [])
            self.assertEqual(told[0], word)
            self.assertIsNot(told[3], start)

    def test_nothing_is_changed_and_asked_again(self):
        plan = plan_of(("any", "x"), choose([DOWN], [note(ALWAYS)]), note(ALWAYS))
        start, turns, givens = point(x=1, y=2, z=3, a=4), [1, 0, 1], [(1, 2), (3, 4)]
        before = copy.deepcopy((plan, start, turns, givens))
        told = run(plan, start, turns, givens)
        self.assertEqual((plan, start, turns, givens), before)
        kept = copy.deepcopy(told)
        again = run(plan, start, turns, givens)
        self.assertEqual(again, kept)
        told[1].clear()
        told[3].clear()
        self.assertEqual(again, kept)
        self.assertEqual(run(plan, start, turns, givens), kept)

    def test_what_is_done_to_things_handed_in_changes_nothing_told(self):
        start, turns, givens = point(x=1), [1], [(1, 2)]
        told = run(single(note(ALWAYS), ("any", "x"), choose()), start, turns, givens)
        kept = copy.deepcopy(told)
        start.clear()
        turns.clear()
        givens.clear()
        self.assertEqual(told, kept)


class ByHandTest(unittest.TestCase):
    def test_many_plans(self):
        words = Counter()
        for seed in range(700):
            maker = Maker(seed)
            plan = maker.plan()
            for _ in range(4):
                asked = (plan, maker.start(plan[0]), maker.turns(), maker.givens())
                told = run(*asked)
                self.assertEqual(told, told_by_hand(*asked), asked)
                words[told[0]] += 1
        self.assertGreater(min(words.values()), 60, words)
        self.assertEqual(sorted(words), ["broken", "done", "going", "unmet", "wanting"])


class LongNumbersTest(unittest.TestCase):
    def assert_as_by_hand(self, plan, start, givens):
        told = run(plan, start, [], givens)
        # Not by assertEqual: it would write the numbers out, and Python refuses that for long ones.
        self.assertTrue(told == told_by_hand(plan, start, [], givens))
        self.assertTrue(all(gcd(*value) == 1 and value[1] > 0 for value in told[3].values()))
        return told

    def test_numbers_of_20_figures_in_the_plan(self):
        great = 10 ** 20 - 11
        step = ("set", "x", ((("x", great), ("y", -great + 2)), great - 4, great - 6))
        back = ("set", "y", ((("x", -great), ("y", great - 10)), 7 - great, great - 12))
        plan = plan_of(loop([step, back], None, ALWAYS), names=("x", "y"))
        told = self.assert_as_by_hand(plan, point(x="1/3", y="2/7"), [])
        self.assertEqual(told[0], "going")

    def test_starts_and_givens_of_10000_figures(self):
        start = {"x": made(10 ** 9999 + 1, 3 ** 20000), "y": made(1 - 10 ** 9999, 7 ** 11000)}
        givens = [made(10 ** 9999 - 7 * one, 11 ** 9000) for one in range(1, 4)]
        step = ("set", "y", ((("x", 3), ("y", -2)), 1, 5))
        plan = plan_of(loop([step, note(ALWAYS), ("any", "x"), step], None, ALWAYS), names=("x", "y"))
        told = self.assert_as_by_hand(plan, start, givens)
        self.assertEqual((told[0], told[2]), ("wanting", (0, 0, 2)))

    def test_a_fall_of_long_numbers(self):
        bottom = 10 ** 9999
        plan = plan_of(loop([("any", "x")], (X, 1), least(0, x=1)), names=("x",))
        start = {"x": (3 * bottom + 1, bottom)}
        self.assertEqual(run(plan, start, [], [(2 * bottom + 1, bottom)])[0], "wanting")
        self.assertEqual(run(plan, start, [], [made(bottom * 10 + 6, bottom * 5)])[0], "broken")
        self.assertEqual(run(plan, start, [], [(-1, bottom)])[0], "done")


if __name__ == "__main__":
    unittest.main()
