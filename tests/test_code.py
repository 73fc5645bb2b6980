"""Points 1 to 3, 15 and 16, and the interface of notekeep/code.py."""

import copy
import itertools
import unittest
from collections import Counter

from notekeep.code import code, walk
from notekeep.errors import NoMeasure, NoName, TooGreat
from notekeep.plans import must_plan, places_of, statement_at
from notekeep.runs import run

from kit import (
    ALWAYS, Maker, NEVER, add, branch, choose, least, loop, more, note, plan_of, point, put, told_by_hand, total,
)

ABOVE = more(0, x=1)
DOWN = add("x", -1)
X = total("x")
ANY = ("any", "x")
NOTE = note(least(-3, x=1))

# Of each instruction the word of the statement whose place it has.
SORTS = {
    "set": "set", "any": "any", "note": "note", "fork": "choose", "unless": "if", "enter": "while", "head": "while",
}
FOLLOWED = ("set", "any", "note", "fork", "unless", "enter", "head")
LEADING = ("fork", "unless", "head", "jump")


def single(*block, rows=()):
    return plan_of(*block, names=("x",), rows=rows)


# Plans of each sort of statement, by themselves and in one another.
PLANS = (
    single(),
    single(DOWN),
    single(ANY),
    single(NOTE),
    single(DOWN, NOTE, ANY, NOTE, DOWN),
    single(choose()),
    single(choose([DOWN], [])),
    single(choose([], [DOWN])),
    single(choose([DOWN], [ANY, DOWN]), NOTE),
    single(branch(asked=ABOVE)),
    single(branch([DOWN], [], ABOVE)),
    single(branch([], [DOWN], ABOVE)),
    single(branch([ANY], [DOWN, NOTE], ABOVE), NOTE),
    single(loop(asked=ALWAYS)),
    single(loop(asked=NEVER)),
    single(loop([DOWN], None, ABOVE)),
    single(loop([DOWN], (X, 1), ABOVE)),
    single(loop([ANY], (X, 1), ABOVE), DOWN),
    single(loop([DOWN, DOWN], (X, 3), ABOVE, (least(-1, x=1),)), NOTE),
    single(loop([choose([DOWN], [add("x", -2)])], (X, 1), ABOVE), loop([DOWN], (X, 1), more(-4, x=1))),
    single(loop([choose([], [DOWN])], None, ABOVE)),
    single(loop([branch([DOWN], [add("x", -3), ANY], more(4, x=1))], (X, 1), ABOVE, (least(-5, x=1),))),
    plan_of(loop([loop([DOWN], (X, 1), ABOVE), add("y", -1), put("x", "y")], None, more(0, y=1)), names=("x", "y")),
    plan_of(loop([loop([], None, NEVER), add("y", -1)], None, more(0, y=1)), names=("x", "y")),
    single(choose([loop([DOWN], (X, 1), ABOVE)], [loop([choose()], None, ABOVE)])),
    single(branch([loop([DOWN], None, ABOVE), DOWN], [choose([ANY], [])], ABOVE), NOTE),
    single(choose([branch([loop([loop([], None, ABOVE)], None, ABOVE)], [], ABOVE)], [DOWN])),
    single(loop([choose([loop([branch([], [], ABOVE)], (X, 1), ABOVE)], [DOWN])], None, more(-3, x=1))),
    single(choose([choose([DOWN], [ANY])], [DOWN]), NOTE),
    single(choose(), choose()),
    single(DOWN, NOTE, rows=(least(-5, x=1), more(-5, x=-1))),
)
STARTS = [point(x=value, y=3, z=0) for value in (-7, -1, 0, "1/2", 1, 2, 5, "17/3")]
TURNS = [[], [0], [1], [1, 0], [0, 1, 1, 0, 1], [1] * 400, [0, 1] * 200]
GIVENS = [[], [(3, 1)], [(5, 2), (1, 1), (-3, 7)], [(1, 1)] * 400]


class CodeTest(unittest.TestCase):
    def assert_such_code(self, plan):
        told = code(plan)
        self.assertIs(type(told), list)
        self.assertLessEqual(len(told), 120)
        places = places_of(plan)
        for number, instruction in enumerate(told):
            self.assertIs(type(instruction), tuple)
            word = instruction[0]
            if word in SORTS:
                self.assertIn(instruction[1], places)
                self.assertEqual(statement_at(plan, instruction[1])[0], SORTS[word])
            if word in FOLLOWED:
                self.assertLess(number + 1, len(told))
            if word in LEADING:
                self.assertIs(type(instruction[-1]), int)
                self.assertIn(instruction[-1], range(len(told)))
            self.assertEqual(len(instruction), {
                "set": 4, "any": 3, "note": 3, "fork": 3, "unless": 4, "enter": 2, "head": 6, "jump": 2, "halt": 1,
            }[word])
            self.assert_leads_on(told, number)

    def assert_leads_on(self, told, number):
        for _ in range(len(told) + 1):
            if told[number][0] not in ("enter", "jump"):
                return
            number = told[number][1] if told[number][0] == "jump" else number + 1
        self.fail("enter and jump alone lead round")

    def test_each_plan(self):
        for plan in PLANS:
            self.assert_such_code(plan)

    def test_plans_of_chance(self):
        for seed in range(300):
            self.assert_such_code(Maker(seed).plan())

    def test_the_greatest_plans(self):
        loops = [loop([DOWN] * 9, (X, 1), ABOVE, (ABOVE, ALWAYS)), loop([DOWN] * 9, (X, 1), ABOVE)]
        for plan in (
            single(*[DOWN] * 24),
            single(choose([DOWN] * 10, [DOWN] * 10), choose(), loop(), loop()),
            single(*loops, choose(), branch(asked=ABOVE), ANY, NOTE),
            single(choose([loop([branch([], [loop(asked=ABOVE)], ABOVE)], None, ABOVE)]), *[DOWN] * 20),
            single(loop([loop([choose([], []), branch([], [], ABOVE)])]), *[DOWN] * 20),
        ):
            must_plan(plan)
            self.assertEqual(len(places_of(plan)), 24)
            self.assert_such_code(plan)

    def test_refusals(self):
        with self.assertRaises(TooGreat) as taken:
            code(single(*[DOWN] * 25))
        self.assertEqual((taken.exception.number, taken.exception.most), (25, 24))
        with self.assertRaises(TooGreat) as taken:
            code(plan_of(names=("a", "b", "c", "d")))
        self.assertEqual((taken.exception.number, taken.exception.most), (4, 3))
        with self.assertRaises(NoName) as taken:
            code(single(DOWN, choose([], [put("q")])))
        self.assertEqual(taken.exception.name, "q")
        with self.assertRaises(NoName) as taken:
            code(single(rows=(least(0, q=1),)))
        self.assertEqual(taken.exception.name, "q")
        with self.assertRaises(NoMeasure) as taken:
            code(single(DOWN, loop([loop()], (X, 1))))
        self.assertEqual(taken.exception.place, (1,))

    def test_nothing_is_changed_and_asked_again(self):
        for plan in PLANS:
            before = copy.deepcopy(plan)
            told = code(plan)
            self.assertEqual(plan, before)
            kept = list(told)
            told.reverse()
            told.append(("halt",))
            self.assertEqual(code(plan), kept)


class AsRunTest(unittest.TestCase):
    def test_each_plan(self):
        words = Counter()
        for plan in PLANS:
            instructions = code(plan)
            for start, turns, givens in itertools.product(STARTS, TURNS, GIVENS):
                told = run(plan, start, turns, givens)
                words[told[0]] += 1
                if told[0] != "unmet":
                    walked = walk(instructions, plan[0], start, turns, givens)
                    self.assertEqual(walked, told, (plan, start, turns, givens))
        self.assertEqual(sorted(words), ["broken", "done", "going", "unmet", "wanting"])

    def test_plans_of_chance(self):
        words = Counter()
        for seed in range(1000, 1700):
            maker = Maker(seed)
            plan = maker.plan()
            instructions = code(plan)
            for _ in range(4):
                start, turns, givens = maker.start(plan[0]), maker.turns(), maker.givens()
                wanted = told_by_hand(plan, start, turns, givens)
                words[wanted[0]] += 1
                if wanted[0] != "unmet":
                    self.assertEqual(walk(instructions, plan[0], start, turns, givens), wanted, plan)
        self.assertGreater(min(words.values()), 60, words)

    def test_300_deeds_and_a_further_statement_of_each_sort(self):
        ahead = loop([DOWN], None, ABOVE)
        for statement in (DOWN, ANY, note(NEVER), choose(), branch(asked=ABOVE), loop(asked=NEVER, notes=(NEVER,))):
            for start in (point(x=148), point(x=149), point(x=150)):
                for plan in (single(ahead, DOWN, statement), single(ahead, statement), single(ahead, statement, DOWN)):
                    told = run(plan, start, [], [])
                    self.assertEqual(walk(code(plan), ("x",), start, [], []), told)
        plan = single(ahead, choose())
        self.assertEqual(walk(code(plan), ("x",), point(x=149), [0], [])[0], "done")

    def test_the_code_knows_nothing_of_the_plan_afterwards(self):
        plan = single(loop([DOWN], (X, 1), ABOVE), NOTE)
        instructions = code(plan)
        wanted = run(plan, point(x=3), [], [])
        self.assertEqual(walk(copy.deepcopy(instructions), ("x",), point(x=3), [], []), wanted)


HALT = ("halt",)
AT = (7, 1, 5)


def sets(value):
    return ("set", (0,), "x", ((), value, 1))


class WalkTest(unittest.TestCase):
    def assert_walk(self, instructions, start, told, turns=(), givens=()):
        """told is (word, places passed, place, point at the end)."""
        word, passed, place, end = walk(instructions, ("x",), start, list(turns), list(givens))
        self.assertEqual((word, [one[0] for one in passed], place, end), told)

    def head(self, row=ALWAYS, to=None, rows=(), measure=(X, 1), place=AT):
        return ("head", place, rows, measure, row, to)

    def test_halt_at_once(self):
        self.assert_walk([HALT], point(x=1), ("done", [], (), point(x=1)))

    def test_each_sort_by_itself(self):
        self.assert_walk([("set", AT, "x", ((("x", 3),), 1, 2)), HALT], point(x=1), ("done", [], (), point(x=2)))
        self.assert_walk([("any", AT, "x"), HALT], point(x=1), ("done", [], (), point(x=4)), givens=[(4, 1), (5, 1)])
        self.assert_walk([("any", AT, "x"), HALT], point(x=1), ("wanting", [], AT, point(x=1)), turns=[1])
        self.assert_walk([("note", AT, (ABOVE, ALWAYS)), HALT], point(x=1), ("done", [AT], (), point(x=1)))
        self.assert_walk([("note", AT, (ALWAYS, ABOVE)), HALT], point(x=0), ("broken", [], AT, point(x=0)))
        forks = [("fork", AT, 3), sets(5), HALT, sets(6), HALT]
        self.assert_walk(forks, point(x=1), ("done", [], (), point(x=5)), turns=[0, 1])
        self.assert_walk(forks, point(x=1), ("done", [], (), point(x=6)), turns=[1])
        self.assert_walk(forks, point(x=1), ("wanting", [], AT, point(x=1)), givens=[(1, 1)])
        asks = [("unless", AT, ABOVE, 3), sets(5), HALT, sets(6), HALT]
        self.assert_walk(asks, point(x=1), ("done", [], (), point(x=5)))
        self.assert_walk(asks, point(x=0), ("done", [], (), point(x=6)))
        self.assert_walk([("enter", AT), HALT], point(x=1), ("done", [], (), point(x=1)))
        self.assert_walk([("jump", 2), sets(5), HALT], point(x=1), ("done", [], (), point(x=1)))

    def test_a_head_by_itself(self):
        ahead = [sets(5), HALT, sets(6), HALT]
        for notes, worth, word in (
            ((), 0, "done"), ((ABOVE,), 0, "broken"), ((ALWAYS, NEVER), 0, "broken"), ((), -1, "broken"),
        ):
            instructions = [("head", AT, notes, (((), worth, 1), 1), ALWAYS, 3)] + ahead
            wanted = ("done", [AT], (), point(x=5)) if word == "done" else ("broken", [], AT, point(x=0))
            self.assert_walk(instructions, point(x=0), wanted)
        self.assert_walk([("head", AT, (), (((), -1, 1), 1), NEVER, 3)] + ahead, point(x=0), ("done", [AT], (), point(x=6)))
        self.assert_walk([("head", AT, (), None, NEVER, 3)] + ahead, point(x=0), ("done", [AT], (), point(x=6)))
        self.assert_walk([("head", AT, (), None, ALWAYS, 3)] + ahead, point(x=0), ("done", [AT], (), point(x=5)))

    def test_a_head_without_an_enter_ahead_of_it(self):
        instructions = [self.head(ABOVE, 3), ("set", (0,), "x", ((("x", 1),), -1, 1)), ("jump", 0), HALT]
        self.assert_walk(instructions, point(x=3), ("done", [AT] * 4, (), point(x=0)))
        slow = [self.head(ABOVE, 3, measure=(X, 2)), ("set", (0,), "x", ((("x", 1),), -1, 1)), ("jump", 0), HALT]
        self.assert_walk(slow, point(x=3), ("broken", [AT], AT, point(x=2)))

    def test_an_enter_within_the_round_forgets(self):
        up = ("set", (0,), "x", ((("x", 1),), 1, 1))
        instructions = [("enter", AT), self.head(more(-5, x=-1), 4), up, ("jump", 0), HALT]
        self.assert_walk(instructions, point(x=3), ("done", [AT] * 3, (), point(x=5)))
        instructions[3] = ("jump", 1)
        self.assert_walk(instructions, point(x=3), ("broken", [AT], AT, point(x=4)))

    def test_an_enter_of_another_place_forgets_nothing(self):
        instructions = [self.head(to=3), ("enter", AT + (0, 0)), self.head(to=3), HALT]
        self.assert_walk(instructions, point(x=3), ("broken", [AT], AT, point(x=3)))
        instructions[1] = ("enter", AT)
        self.assert_walk(instructions, point(x=3), ("done", [AT] * 2, (), point(x=3)))

    def test_two_heads_with_one_place(self):
        # The second has a sum and a fall of its own, and looks at the worth that the first one left.
        for value, good in ((0, True), (1, True), ("3/2", False), (2, False)):
            other = (((("x", 2),), 1, 1), 4)
            instructions = [self.head(to=3), ("any", (0,), "x"), self.head(to=3, measure=other), HALT]
            start = point(x=7)
            end = point(x=value)
            wanted = ("done", [AT] * 2, (), end) if good else ("broken", [AT], AT, end)
            self.assert_walk(instructions, start, wanted, givens=[end["x"]])

    def test_two_heads_with_two_places(self):
        other = AT + (0, 0)
        instructions = [self.head(to=3), ("enter", (0,)), self.head(to=3, place=other), HALT]
        self.assert_walk(instructions, point(x=3), ("done", [AT, other], (), point(x=3)))

    def test_a_head_whose_row_is_not_so_between_two(self):
        # The middle head goes on with its "to", which is the next one, and leaves the worth 9 known.
        for last, good in ((8, True), ("17/2", False)):
            middle = self.head(NEVER, 4)
            instructions = [self.head(to=6), ("any", (0,), "x"), ("enter", (0,)), middle, ("any", (0,), "x")]
            instructions += [self.head(to=6), HALT]
            end = point(x=last)
            wanted = ("done", [AT] * 3, (), end) if good else ("broken", [AT] * 2, AT, end)
            self.assert_walk(instructions, point(x=9), wanted, givens=[(2, 1), end["x"]])

    def test_a_head_whose_row_is_not_so_looks_at_the_fall(self):
        instructions = [self.head(to=3), ("any", (0,), "x"), self.head(NEVER, 3), HALT]
        self.assert_walk(instructions, point(x=9), ("done", [AT] * 2, (), point(x=8)), givens=[(8, 1)])
        self.assert_walk(instructions, point(x=9), ("broken", [AT], AT, point(x=9)), givens=[(9, 1)])
        self.assert_walk(instructions, point(x=0), ("done", [AT] * 2, (), point(x=-1)), givens=[(-1, 1)])

    def test_a_head_whose_row_is_not_so_at_first_makes_nothing_known(self):
        instructions = [self.head(NEVER, 1), ("any", (0,), "x"), self.head(to=3), HALT]
        self.assert_walk(instructions, point(x=1), ("done", [AT] * 2, (), point(x=5)), givens=[(5, 1)])

    def test_a_head_without_a_measure_between_two(self):
        for last, good in ((8, True), (9, False)):
            instructions = [self.head(to=4), self.head(to=4, measure=None), ("any", (0,), "x"), self.head(to=4), HALT]
            end = point(x=last)
            wanted = ("done", [AT] * 3, (), end) if good else ("broken", [AT] * 2, AT, end)
            self.assert_walk(instructions, point(x=9), wanted, givens=[end["x"]])

    def test_a_jump_to_a_jump(self):
        instructions = [("jump", 2), sets(5), ("jump", 4), sets(6), ("enter", AT), ("jump", 6), HALT]
        self.assert_walk(instructions, point(x=1), ("done", [], (), point(x=1)))
        backwards = [("jump", 2), HALT, ("jump", 3), ("jump", 1)]
        self.assert_walk(backwards, point(x=1), ("done", [], (), point(x=1)))

    def test_places_that_stand_in_no_plan(self):
        for place in ((), (99,), (0, 7, 0), (-1,), (10 ** 30, 1)):
            instructions = [("note", place, (ALWAYS,)), ("enter", place), self.head(NEVER, 3, place=place)]
            instructions += [("fork", place, 4), HALT]
            self.assert_walk(instructions, point(x=1), ("done", [place] * 2, (), point(x=1)), turns=[0])
            self.assert_walk(instructions, point(x=1), ("wanting", [place] * 2, place, point(x=1)))

    def test_deeds(self):
        # Jumps and enters are no deeds; the 301st deed isn't done, whatever it is.
        further = (
            sets(1), ("any", AT, "x"), ("note", AT, (NEVER,)), ("fork", AT, 0), ("unless", AT, NEVER, 0),
            self.head(to=0, rows=(NEVER,)),
        )
        for last in further:
            straight = [sets(2)] * 300 + [("enter", AT), ("jump", 302), last, HALT]
            self.assert_walk(straight, point(x=1), ("going", [], last[1], point(x=2)))
        two_deeds_a_round = [("jump", 1), ("enter", (0,)), sets(2), ("unless", (1,), ALWAYS, 5), ("jump", 0), HALT]
        self.assert_walk(two_deeds_a_round, point(x=1), ("going", [], (0,), point(x=2)))
        self.assert_walk([sets(2)] * 300 + [HALT], point(x=1), ("done", [], (), point(x=2)))
        self.assert_walk([sets(2)] * 300 + [("enter", AT), ("jump", 302), HALT], point(x=1), ("done", [], (), point(x=2)))
        self.assert_walk([sets(2)] * 299 + [("note", AT, (NEVER,)), HALT], point(x=1), ("broken", [], AT, point(x=2)))

    def test_a_start_that_lacks_a_name(self):
        for start, name in (
            (point(y=1, z=1), "x"), (point(x=1, z=1), "y"), (point(x=1, y=1), "z"), ({}, "x"), (point(x=1, a=0), "y"),
        ):
            before = dict(start)
            with self.assertRaises(NoName) as taken:
                walk([HALT], ("x", "y", "z"), start, [], [])
            self.assertEqual(taken.exception.name, name)
            self.assertEqual(start, before)

    def test_a_start_with_more_names(self):
        told = walk([("note", AT, (ALWAYS,)), HALT], ("x",), point(a=1, x=2, z=3), [], [])
        self.assertEqual(told, ("done", [(AT, point(x=2))], (), point(x=2)))

    def test_the_plans_rows_are_not_looked_at(self):
        plan = single(DOWN, rows=(NEVER,))
        self.assertEqual(run(plan, point(x=1), [], [])[0], "unmet")
        self.assertEqual(walk(code(plan), ("x",), point(x=1), [], []), ("done", [], (), point(x=0)))

    def test_each_point_is_a_dict_of_its_own(self):
        start = point(x=1)
        told = walk([("note", AT, (ALWAYS,)), ("note", AT, ()), self.head(NEVER, 3), HALT], ("x",), start, [], [])
        points = [start] + [one[1] for one in told[1]] + [told[3]]
        self.assertEqual(len({id(one) for one in points}), 5)

    def test_nothing_is_changed_and_asked_again(self):
        plan = single(loop([choose([DOWN], [("any", "x")])], (X, 1), ABOVE), NOTE)
        instructions, start, turns, givens = code(plan), point(x=3, y=1), [0, 1, 0], [(1, 1), (2, 1)]
        before = copy.deepcopy((instructions, start, turns, givens))
        told = walk(instructions, ("x",), start, turns, givens)
        self.assertEqual((instructions, start, turns, givens), before)
        kept = copy.deepcopy(told)
        told[1].clear()
        told[3].clear()
        self.assertEqual(walk(instructions, ("x",), start, turns, givens), kept)

    def test_kinds_told(self):
        told = walk([("note", AT, (ALWAYS,)), HALT], ("x",), point(x=2), [], [])
        self.assertIs(type(told), tuple)
        self.assertEqual([type(one) for one in told], [str, list, tuple, dict])

    def test_long_numbers(self):
        long = 10 ** 9999
        instructions = [("set", AT, "x", ((("x", long),), 1, long - 1)), ("note", AT, (("least", (("x", 1),), 1),)), HALT]
        told = walk(instructions, ("x",), {"x": (1, 1)}, [], [])
        self.assertEqual(told[0], "done")
        self.assertTrue(told[3]["x"] == (long + 1, long - 1))


if __name__ == "__main__":
    unittest.main()
