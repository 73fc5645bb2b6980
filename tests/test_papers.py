"""Points 1 to 3, 9 and 22 to 24, and the interface of notekeep/papers.py."""

import copy
import unittest
from collections import Counter
from math import floor, gcd

from notekeep.papers import lets_by, papers_of
from notekeep.runs import run

from kit import (
    KEPT, REFUSED, Maker, are_weights, duties_by_hand, is_met, is_open, lines, names_of, point, rounds_by_hand, rows_against,
)

COUNT_DOWN = KEPT[4]


def lets_by_hand(plan, papers):
    due = duties_by_hand(plan)
    return len(papers) == len(due) and all(are_weights(rows_against(duty), paper) for duty, paper in zip(due, papers))


class Papers(unittest.TestCase):
    def look_at_kept(self, plan, papers):
        due = duties_by_hand(plan)
        self.assertIs(type(papers), list)
        self.assertEqual(len(papers), len(due))
        for duty, paper in zip(due, papers):
            self.assertIs(type(paper), tuple)
            self.assertTrue(all(type(weight) is int for weight in paper))
            self.assertTrue(are_weights(rows_against(duty), paper), (plan, duty, paper))
        self.assertIs(lets_by(plan, papers), True)

    def look_at_open(self, plan, number, at):
        due = duties_by_hand(plan)
        self.assertIs(type(number), int)
        self.assertIn(number, range(len(due)))
        self.assertFalse(any(is_open(duty) for duty in due[:number]), (plan, number))
        rows = rows_against(due[number])
        self.assertIs(type(at), dict)
        self.assertEqual(set(at), names_of(rows))
        for value in at.values():
            self.assertEqual([type(value), type(value[0]), type(value[1])], [tuple, int, int])
            self.assertTrue(value[1] > 0 and gcd(*value) == 1 and len(value) == 2)
        self.assertTrue(is_met(rows, at), (plan, number, at))

    def look(self, plan):
        told = papers_of(plan)
        self.assertIs(type(told), tuple)
        if told[0] == "kept":
            self.assertEqual(len(told), 2)
            self.look_at_kept(plan, told[1])
        else:
            self.assertEqual((told[0], len(told)), ("open", 3))
            self.look_at_open(plan, *told[1:])
        return told

    def expect_open(self, number, *text):
        told = self.look(lines(*text))
        self.assertEqual(told[:2], ("open", number))
        return told[2]


class KeptTest(Papers):
    def test_plans_that_are_kept(self):
        for plan in KEPT:
            self.assertEqual(self.look(plan)[0], "kept")

    def test_plans_without_duties(self):
        for text in ("plan x", "plan x\ngiven 1 x > 0\nset x = 1", "plan x\nwhile 1 x > 0\n  set x = 1 x - 1\nend"):
            self.assertEqual(papers_of(lines(text)), ("kept", []))

    def test_a_note_that_follows_by_several_rows(self):
        self.assertEqual(self.look(lines("plan x y", "given 3 x - 2 y >= 1 and 5 y > 2", "note 15 x >= 10"))[0], "open")
        self.assertEqual(self.look(lines("plan x y", "given 3 x - 2 y >= 1 and 5 y > 2", "note 15 x > 9"))[0], "kept")
        self.assertEqual(self.look(lines("plan x y", "given 3 x - 2 y >= 1 and 5 y > 2", "note 15 x >= 9"))[0], "kept")

    def test_a_note_that_follows_by_the_note_ahead_of_it_alone(self):
        text = ("plan x", "given 1 x > 0", "choose", "  set x = 1 x + 1", "or", "end")
        self.assertEqual(self.look(lines(*text, "note 1 x > 0", "note 2 x > 0"))[0], "kept")
        self.assertEqual(self.look(lines(*text, "note 1 x > 0 and 2 x > 0"))[0], "kept")

    def test_numbers_of_20_figures(self):
        big = 98765432109876543210
        text = ("plan x y", f"given {big} x - 1 y >= {big}", f"set x = {big} x over {big - 1}", f"set y = 1 y over {big - 1}")
        self.assertEqual(self.look(lines(*text, f"note {big - 1} x - {big - 1} y >= {big}"))[0], "kept")
        self.assertEqual(self.look(lines(*text, f"note {big - 1} x - {big - 1} y > {big}"))[0], "open")


class OpenTest(Papers):
    def test_the_first_a_later_and_the_last_duty(self):
        self.assertEqual(set(self.expect_open(0, "plan x y", "note 1 x >= 0", "note 0 >= 0")), {"x"})
        self.expect_open(1, "plan x", "given 1 x >= 0", "note 1 x >= 0 and 1 x > 0")
        self.expect_open(1, "plan x", "given 1 x >= 0", "note 1 x >= 0", "while 1 x > 0", "  keep 1 x > 1", "end")
        text = ("plan x", "given 1 x >= 0", "while 1 x > 0", "  keep 1 x > -1", "  fall 1 x by 1", "  set x = 1 x - 1", "end")
        self.expect_open(5, *text, "note -1 x >= 0 and 1 x >= 0")
        self.expect_open(4, *text, "note -1 x > 0 and 1 x > -1")

    # Each row of a note is for itself: neither helps the other.
    def test_a_note_whose_rows_would_follow_from_one_another(self):
        self.expect_open(0, "plan x", "note 1 x > 0 and 2 x > 0")
        self.expect_open(0, "plan x", "while 1 x > 0", "  keep 1 x > 0 and 2 x > 0", "end")

    def test_each_way(self):
        self.expect_open(0, "plan x", "choose", "  set x = 0", "or", "  set x = 1", "end", "note 1 x > 0")
        self.expect_open(1, "plan x", "choose", "  set x = 1", "or", "  set x = 0", "end", "note 1 x > 0")
        self.expect_open(0, "plan x", "if 1 x >= 0", "else", "  set x = 1", "end", "note 1 x > 0")
        self.expect_open(1, "plan x", "if 1 x > 0", "else", "end", "note 1 x > 0")

    def test_the_notes_of_a_loop(self):
        self.expect_open(1, "plan x", "set x = 0", "while 0 >= 0", "  keep -1 x >= -3", "  set x = 1 x + 1", "end")
        self.expect_open(2, "plan x", "set x = 0", "while -1 x > -3", "  keep -1 x >= -3", "  set x = 1 x + 1", "  note -1 x > -4", "end")

    def test_worth_and_fall(self):
        self.expect_open(0, "plan x", "while 1 x > -1", "  fall 1 x by 1", "  set x = 1 x - 1", "end")
        self.expect_open(1, "plan x", "while 1 x > 0", "  fall 1 x by 2", "  set x = 1 x - 1", "end")
        self.expect_open(1, "plan x", "while 1 x > 0", "  fall 1 x by 1", "  set x = 1 x over 2", "end")
        self.expect_open(2, "plan x", "while 1 x > 0", "  fall 1 x by 1", "  choose", "    set x = 1 x - 1", "  or", "  end", "end")

    def test_a_fall_that_only_the_fractions_break(self):
        self.expect_open(0, "plan x", "while 1 x > 0", "  fall 1 x - 1 by 1", "  set x = 1 x - 1", "end")

    def test_points_with_just_the_names_that_stand_there(self):
        self.assertEqual(self.expect_open(0, "plan x y z", "note 0 > 0"), {})
        self.assertEqual(set(self.expect_open(0, "plan x y z", "any x", "note 1 x > 0")), {"A"})
        self.assertEqual(set(self.expect_open(0, "plan x y z", "any x", "note 1 x + 1 y > 0")), {"A", "y"})
        self.assertEqual(set(self.expect_open(0, "plan x y z", "given 1 z > 0", "any x", "note 1 y > 0")), {"y", "z"})
        self.assertEqual(set(self.expect_open(0, "plan x y z", "set x = 1 y", "note 1 x - 1 y > 0")), set())

    def test_a_point_that_is_the_only_one(self):
        at = self.expect_open(0, "plan x y", "given 2 x >= 1 and -2 x >= -1", "set y = 1 x + 1 y", "note 1 y > 1")
        self.assertEqual(at["x"], (1, 2))


class LooksTest(Papers):
    def test_what_papers_of_tells(self):
        for plan in KEPT:
            self.assertIs(lets_by(plan, papers_of(plan)[1]), True)

    def test_one_number_changed(self):
        words = Counter()
        for plan in KEPT:
            papers = papers_of(plan)[1]
            for number, paper in enumerate(papers):
                for index, weight in enumerate(paper):
                    for other in (weight + 1, weight - 1, 0, 2 * weight, weight + 10 ** 9999):
                        changed = list(papers)
                        changed[number] = paper[:index] + (other,) + paper[index + 1:]
                        told = lets_by(plan, changed)
                        self.assertIs(told, lets_by_hand(plan, changed))
                        words[told] += 1
        self.assertGreater(min(words[True], words[False]), 100, words)

    def test_one_number_less_than_nought(self):
        for plan in KEPT:
            papers = papers_of(plan)[1]
            for number, paper in enumerate(papers):
                for index in range(len(paper)):
                    for other in (-1, -paper[index] - 1, -10 ** 9999):
                        changed = list(papers)
                        changed[number] = paper[:index] + (other,) + paper[index + 1:]
                        self.assertIs(lets_by(plan, changed), False)

    # Below nought, but added up it would do.
    def test_less_than_nought_that_adds_up(self):
        plan = lines("plan x", "given 1 x >= 3 and 1 x > 5", "note 1 x >= 4")
        self.assertIs(lets_by(plan, [(0, 1, 1)]), True)
        self.assertIs(lets_by(plan, [(-1, 2, 1)]), False)
        self.assertIs(lets_by(plan, [(0, -1, -1)]), False)

    def test_numbers_too_few_or_too_many(self):
        for plan in KEPT:
            papers = papers_of(plan)[1]
            for number, paper in enumerate(papers):
                for other in (paper[:-1], paper[1:], paper + (0,), paper + (1,), (0,) + paper, ()):
                    changed = list(papers)
                    changed[number] = other
                    self.assertIs(lets_by(plan, changed), False)

    def test_papers_too_few_or_too_many(self):
        for plan in KEPT:
            papers = papers_of(plan)[1]
            for number in range(len(papers)):
                self.assertIs(lets_by(plan, papers[:number] + papers[number + 1:]), False)
                self.assertIs(lets_by(plan, papers[:number] + papers[number:number + 1] + papers[number:]), False)
            self.assertIs(lets_by(plan, papers + [()]), False)
            self.assertIs(lets_by(plan, papers + [(1,)]), False)
            self.assertIs(lets_by(plan, papers + papers), papers == [])
            self.assertIs(lets_by(plan, []), papers == [])
            self.assertIs(lets_by(plan, [()] * len(papers)), papers == [])
            self.assertIs(lets_by(plan, [(0,) * len(paper) for paper in papers]), papers == [])

    def test_two_papers_changed_about(self):
        words = Counter()
        for plan in KEPT:
            papers = papers_of(plan)[1]
            for one in range(len(papers)):
                for other in range(one):
                    changed = list(papers)
                    changed[one], changed[other] = papers[other], papers[one]
                    told = lets_by(plan, changed)
                    self.assertIs(told, lets_by_hand(plan, changed))
                    words[told] += 1
        self.assertGreater(min(words[True], words[False]), 20, words)

    def test_a_plan_without_duties(self):
        for papers in ([()], [(1,)], [(0,), ()], [(-1, 2)]):
            self.assertIs(lets_by(KEPT[0], papers), False)
        self.assertIs(lets_by(KEPT[0], []), True)

    def test_papers_taken_many_times(self):
        for plan in KEPT:
            papers = papers_of(plan)[1]
            for often in (2, 7, 10 ** 9999):
                self.assertIs(lets_by(plan, [tuple(often * weight for weight in paper) for paper in papers]), True)

    def test_other_papers_than_those_told(self):
        plan = lines("plan x", "given 1 x >= 1 and 1 x >= 2", "note 1 x >= 0")
        for paper in ((1, 0, 1), (0, 1, 1), (1, 1, 2), (3, 4, 7)):
            self.assertIs(lets_by(plan, [paper]), True)
        for paper in ((1, 1, 1), (1, 0, 0), (0, 0, 1), (0, 1, 2), (0, 0, 0)):
            self.assertIs(lets_by(plan, [paper]), False)

    # Where the bounds come to just nought, something that says "more" must be taken.
    def test_bounds_that_come_to_nought(self):
        self.assertIs(lets_by(lines("plan x", "given 1 x >= 1", "note 1 x >= 1"), [(1, 1)]), True)
        self.assertIs(lets_by(lines("plan x", "given 1 x > 1", "note 1 x > 1"), [(1, 1)]), True)
        self.assertIs(lets_by(lines("plan x", "given 1 x >= 1", "note 1 x > 1"), [(1, 1)]), False)
        self.assertIs(lets_by(lines("plan x", "given 1 x >= 1 and 0 > -1", "note 1 x > 1"), [(1, 0, 1)]), False)

    def test_a_plan_with_an_open_duty(self):
        plan = lines("plan x", "given 1 x >= 0", "note 1 x >= 0 and 1 x > 0")
        for papers in ([(1, 1)], [(1, 1), (1, 1)], [(1, 1), (0, 1)], [(1, 1), (1, 0)], [(1, 1), ()], []):
            self.assertIs(lets_by(plan, papers), False)

    def test_the_papers_of_another_plan(self):
        for plan in KEPT:
            for other in KEPT:
                papers = papers_of(other)[1]
                self.assertIs(lets_by(plan, papers), lets_by_hand(plan, papers))


class RunsTest(Papers):
    def look_at_run(self, plan, maker):
        start = maker.start(plan[0])
        turns = maker.turns()
        givens = maker.givens()
        word = run(plan, start, turns, givens)[0]
        self.assertNotEqual(word, "broken", (plan, start, turns, givens))
        for place, measured, was_so, rounds in rounds_by_hand(plan, start, turns, givens):
            if not was_so:
                self.assertEqual(rounds, 0)
            elif measured is not None:
                self.assertLessEqual(rounds, floor(measured[0] / measured[1]) + 1)
        return word

    def test_runs_of_plans_that_are_kept(self):
        maker = Maker(41)
        words = Counter()
        for plan in KEPT:
            for _ in range(150):
                words[self.look_at_run(plan, maker)] += 1
        self.assertGreater(words["done"], 300, words)

    def test_as_many_rounds_as_the_measure_lets(self):
        for start, rounds in (("1/2", 1), (1, 1), ("3/2", 2), (7, 7), (0, 0), (250, 150)):
            self.assertEqual(rounds_by_hand(COUNT_DOWN, point(x=start), [], [])[0][-1], rounds)
        self.assertEqual(run(COUNT_DOWN, point(x=250), [], [])[0], "going")

    def test_plans_of_chance(self):
        maker = Maker(42)
        kept = 0
        words = Counter()
        for _ in range(4000):
            plan = maker.plan()
            told = papers_of(plan)
            if told[0] == "kept" and len(told[1]) > 0:
                self.look_at_kept(plan, told[1])
                kept += 1
                for _ in range(6):
                    words[self.look_at_run(plan, maker)] += 1
        self.assertGreater(kept, 200)
        self.assertGreater(words["done"], 200, words)

    def test_plans_with_a_broken_run_are_open(self):
        maker = Maker(43)
        broken = 0
        for _ in range(1500):
            plan = maker.plan()
            told = self.look(plan)
            words = [run(plan, maker.start(plan[0]), maker.turns(), maker.givens())[0] for _ in range(4)]
            if "broken" in words:
                broken += 1
                self.assertEqual(told[0], "open", plan)
        self.assertGreater(broken, 200)

    # At the point of an open duty from the start, a run without loops is broken there.
    def test_an_open_duty_of_the_start_breaks_a_run(self):
        maker = Maker(44)
        broken = 0
        for _ in range(3000):
            plan = maker.plan()
            told = papers_of(plan)
            if told[0] == "kept":
                continue
            duty = duties_by_hand(plan)[told[1]]
            words = [statement[0] for statement in plan[2]]
            if duty[0] != ("start",) or "if" in repr(plan) or "while" in words[:duty[2][0]]:
                continue
            start = {name: told[2].get(name, (0, 1)) for name in plan[0]}
            word, passed, place, at = run(plan, start, list(duty[1]), [told[2].get("A", (0, 1))])
            self.assertEqual((word, place), ("broken", duty[2]))
            broken += 1
        self.assertGreater(broken, 300)


class RefusalsTest(Papers):
    def test_plans_that_are_refused(self):
        for plan, error, fields in REFUSED:
            for asked in (lambda: papers_of(plan), lambda: lets_by(plan, []), lambda: lets_by(plan, [(1, 2), (-1,)])):
                with self.assertRaises(error) as taken:
                    asked()
                self.assertIs(type(taken.exception), error)
                self.assertEqual(vars(taken.exception), fields)

    def test_nothing_is_changed_and_asked_again(self):
        maker = Maker(45)
        for plan in KEPT + tuple(maker.plan() for _ in range(150)):
            before = copy.deepcopy(plan)
            told = papers_of(plan)
            kept = copy.deepcopy(told)
            if told[0] == "kept":
                self.assertIs(lets_by(plan, told[1]), True)
                self.assertEqual(told, kept)
                told[1].append((5,))
                self.assertIs(lets_by(plan, told[1]), False)
            else:
                told[2].clear()
            for refused, error, fields in REFUSED[:3]:
                self.assertRaises(error, papers_of, refused)
                self.assertRaises(error, lets_by, refused, kept[1] if kept[0] == "kept" else [])
            self.assertEqual(plan, before)
            self.assertEqual(papers_of(plan), kept)


if __name__ == "__main__":
    unittest.main()
