"""Points 1 to 3 and 7 to 9, and the interface of notekeep/plans.py."""

import copy
import itertools
import unittest

from notekeep.errors import KeepError, NoMeasure, NoName, TooGreat
from notekeep.plans import loops_of, must_plan, places_of, statement_at

from kit import branch, choose, loop, note, plan_of, put, row, total

ANY = ("any", "x")
SET = put()
MEASURE = (total("x"), 1)


class PlacesTest(unittest.TestCase):
    # All sorts of statements in one another, with each statement's place.
    INNER_IF = branch([put("y")], [ANY, put("z")])
    INNER_WHILE = loop([note(row("x")), INNER_IF, put("y", "x")])
    FULL = plan_of(
        SET,
        choose([ANY, INNER_WHILE], [SET, branch([], [loop([choose([], [SET])])])]),
        loop([]),
        branch([note(row("y"))], []),
        loop([loop([SET])]),
    )
    LAID_OUT = (
        ((0,), SET),
        ((1,), FULL[2][1]),
        ((1, 0, 0), ANY),
        ((1, 0, 1), INNER_WHILE),
        ((1, 0, 1, 0, 0), note(row("x"))),
        ((1, 0, 1, 0, 1), INNER_IF),
        ((1, 0, 1, 0, 1, 0, 0), put("y")),
        ((1, 0, 1, 0, 1, 1, 0), ANY),
        ((1, 0, 1, 0, 1, 1, 1), put("z")),
        ((1, 0, 1, 0, 2), put("y", "x")),
        ((1, 1, 0), SET),
        ((1, 1, 1), branch([], [loop([choose([], [SET])])])),
        ((1, 1, 1, 1, 0), loop([choose([], [SET])])),
        ((1, 1, 1, 1, 0, 0, 0), choose([], [SET])),
        ((1, 1, 1, 1, 0, 0, 0, 1, 0), SET),
        ((2,), loop([])),
        ((3,), FULL[2][3]),
        ((3, 0, 0), note(row("y"))),
        ((4,), loop([loop([SET])])),
        ((4, 0, 0), loop([SET])),
        ((4, 0, 0, 0, 0), SET),
    )

    def test_an_empty_plan(self):
        self.assertEqual(places_of(plan_of()), [])
        self.assertEqual(loops_of(plan_of()), [])

    def test_empty_blocks(self):
        empty = plan_of(choose(), branch(), loop())
        self.assertEqual(places_of(empty), [(0,), (1,), (2,)])
        self.assertEqual(loops_of(empty), [(2,)])
        self.assertEqual([statement_at(empty, (k,)) for k in range(3)], [choose(), branch(), loop()])

    def test_blocks_in_one_another(self):
        self.assertEqual(places_of(self.FULL), [place for place, statement in self.LAID_OUT])

    def test_the_order_is_that_of_tuples(self):
        places = places_of(self.FULL)
        self.assertEqual(places, sorted(places))

    def test_more_than_ten_in_a_block(self):
        many = plan_of(*[SET] * 12, loop([SET] * 11))
        wanted = [(k,) for k in range(13)] + [(12, 0, k) for k in range(11)]
        self.assertEqual(places_of(many), wanted)

    def test_statement_at_each_place(self):
        for place, statement in self.LAID_OUT:
            self.assertEqual(statement_at(self.FULL, place), statement, place)

    def test_statements_at_places_differ_where_they_do(self):
        # Each name set here is another one, so that no place can be taken for another.
        block = choose([put("a"), put("b")], [put("c"), branch([put("d")], [put("e"), put("f")]), loop([put("g"), put("h")])])
        plan = plan_of(block)
        told = [statement_at(plan, place)[1] for place in places_of(plan) if statement_at(plan, place)[0] == "set"]
        self.assertEqual("".join(told), "abcdefgh")

    def test_loops(self):
        wanted = [place for place, statement in self.LAID_OUT if statement[0] == "while"]
        self.assertEqual(loops_of(self.FULL), wanted)
        self.assertEqual(wanted, [(1, 0, 1), (1, 1, 1, 1, 0), (2,), (4,), (4, 0, 0)])

    def test_no_loops(self):
        self.assertEqual(loops_of(plan_of(SET, choose([ANY], [branch([SET], [SET])]), note(row("x")))), [])

    def test_kinds_told(self):
        for told in (places_of(self.FULL), loops_of(self.FULL)):
            self.assertIs(type(told), list)
            for place in told:
                self.assertIs(type(place), tuple)
                self.assertTrue(all(type(one) is int for one in place))

    def test_a_told_list_is_the_askers_own(self):
        for asked in (places_of, loops_of):
            first = asked(self.FULL)
            second = asked(self.FULL)
            kept = list(first)
            first.append((9, 9, 9))
            first[0] = ()
            first.reverse()
            self.assertEqual(second, kept)
            self.assertEqual(asked(self.FULL), kept)

    def test_the_plan_stays_as_it_was(self):
        before = copy.deepcopy(self.FULL)
        places_of(self.FULL)
        loops_of(self.FULL)
        statement_at(self.FULL, (1, 0, 1))
        self.assertEqual(self.FULL, before)


class BeyondTheBoundsTest(unittest.TestCase):
    def test_plans_that_must_plan_refuses(self):
        strange = plan_of(
            *[put("q", "r")] * 30, *[ANY] * 3, *[branch()] * 4,
            loop([loop([loop([loop([loop([SET], MEASURE)])])])], MEASURE),
            names=tuple("abcdefgh"), rows=(row("y"),),
        )
        with self.assertRaises(KeepError):
            must_plan(strange)
        places = places_of(strange)
        self.assertEqual(places[:37], [(k,) for k in range(37)])
        self.assertEqual(places[37:], [(37,) + (0, 0) * depth for depth in range(6)])
        self.assertEqual(loops_of(strange), [(37,) + (0, 0) * depth for depth in range(5)])
        self.assertEqual(statement_at(strange, (37,) + (0, 0) * 5), SET)

    def test_a_plan_of_great_depth(self):
        statement = SET
        for _ in range(500):
            statement = choose([], [loop([branch([statement])])])
        deep = plan_of(statement)
        places = places_of(deep)
        self.assertEqual(len(places), 1501)
        self.assertEqual(places[-1], (0,) + (1, 0, 0, 0, 0, 0) * 500)
        self.assertEqual(statement_at(deep, places[-1]), SET)
        self.assertEqual(len(loops_of(deep)), 500)
        with self.assertRaises(TooGreat) as taken:
            must_plan(deep)
        self.assertEqual((taken.exception.number, taken.exception.most), (1501, 24))


class Refusals(unittest.TestCase):
    def assert_good(self, plan):
        self.assertIsNone(must_plan(plan))

    def assert_too_great(self, plan, number, most):
        with self.assertRaises(TooGreat) as taken:
            must_plan(plan)
        self.assertEqual((taken.exception.number, taken.exception.most), (number, most))

    def assert_no_name(self, plan, name):
        with self.assertRaises(NoName) as taken:
            must_plan(plan)
        self.assertEqual(taken.exception.name, name)

    def assert_no_measure(self, plan, place):
        with self.assertRaises(NoMeasure) as taken:
            must_plan(plan)
        self.assertEqual(taken.exception.place, place)


# Two branches and two loops in one another, the innermost with the block: of the depth 5 with it.
def nested(*block):
    return choose([loop([branch([], [loop(block)])])])


class BoundsTest(Refusals):
    def test_good_plans(self):
        self.assert_good(plan_of())
        self.assert_good(plan_of(names=("q",)))
        self.assert_good(plan_of(SET, ANY, note(row("x"), row("y")), choose(), branch(), loop(), rows=(row("x"), row("z"))))

    def test_names(self):
        self.assert_good(plan_of(names=("a", "b", "c")))
        self.assert_too_great(plan_of(names=("a", "b", "c", "d")), 4, 3)
        self.assert_too_great(plan_of(names=tuple("abcdefghijklmnopqrstuvwxyz")), 26, 3)

    def test_statements(self):
        self.assert_good(plan_of(*[SET] * 24))
        self.assert_too_great(plan_of(*[SET] * 25), 25, 24)
        self.assert_too_great(plan_of(*[SET] * 60), 60, 24)

    def test_statements_within_statements(self):
        inner = loop([SET] * 9)
        self.assert_good(plan_of(branch([SET] * 5, [SET] * 7), inner, SET))
        self.assert_too_great(plan_of(branch([SET] * 5, [SET] * 7), inner, SET, SET), 25, 24)
        self.assert_too_great(plan_of(branch([SET] * 6, [SET] * 7), inner, SET), 25, 24)
        self.assert_too_great(plan_of(branch([SET] * 5, [SET] * 8), inner, SET), 25, 24)
        self.assert_too_great(plan_of(choose([SET] * 12, [SET] * 12)), 25, 24)
        self.assert_good(plan_of(choose([SET] * 11, [SET] * 12)))

    def test_depth(self):
        self.assert_good(plan_of(nested()))
        self.assert_too_great(plan_of(nested(SET)), 5, 4)
        self.assert_good(plan_of(loop([choose([SET], [branch([SET], [SET])])])))
        self.assert_too_great(plan_of(SET, nested(SET, SET), SET), 5, 4)
        self.assert_too_great(plan_of(nested(loop([loop([SET])]))), 7, 4)

    def test_depth_by_each_block(self):
        for first in (lambda inner: choose([inner]), lambda inner: choose([], [inner])):
            for second in (lambda inner: branch([inner]), lambda inner: branch([], [inner])):
                self.assert_good(plan_of(first(loop([second(SET)]))))
                self.assert_too_great(plan_of(first(loop([loop([second(SET)])]))), 5, 4)

    def test_branches(self):
        for one, other, third in itertools.product((choose(), branch()), repeat=3):
            self.assert_good(plan_of(one, other))
            self.assert_too_great(plan_of(one, other, third), 3, 2)
        self.assert_good(plan_of(choose([branch()])))
        self.assert_too_great(plan_of(choose([branch()], [choose()])), 3, 2)
        self.assert_too_great(plan_of(loop([branch([], [branch()])]), choose(), choose()), 4, 2)

    def test_loops(self):
        self.assert_good(plan_of(loop(), loop()))
        self.assert_good(plan_of(loop([loop()])))
        self.assert_too_great(plan_of(loop(), loop(), loop()), 3, 2)
        self.assert_too_great(plan_of(loop([loop([loop()])])), 3, 2)
        self.assert_too_great(plan_of(loop(), choose([loop()], [loop([loop()])])), 4, 2)

    def test_given(self):
        self.assert_good(plan_of(ANY))
        self.assert_good(plan_of(choose([], [loop([ANY])])))
        self.assert_too_great(plan_of(ANY, ("any", "y")), 2, 1)
        self.assert_too_great(plan_of(ANY, choose([ANY], [ANY])), 3, 1)

    def test_rows_noted(self):
        self.assert_good(plan_of(note(row("x"), row("y"))))
        self.assert_good(plan_of(note(row("x")), choose([], [note(row("y"))])))
        self.assert_too_great(plan_of(note(row("x"), row("y")), note(row("x"))), 3, 2)
        self.assert_too_great(plan_of(note(row("x")), note(row("x")), loop([note(row("x"))])), 3, 2)
        self.assert_too_great(plan_of(note(row("x"), row("y")), note(row("x"), row("y"))), 4, 2)

    def test_other_rows_are_not_noted_ones(self):
        rows = (row("x"), row("y"))
        self.assert_good(plan_of(note(*rows), loop(notes=rows), loop(notes=rows), branch(), branch(), rows=rows))

    def test_refused_again_in_the_same_way(self):
        for _ in range(2):
            self.assert_too_great(plan_of(*[SET] * 25), 25, 24)
            self.assert_good(plan_of(SET))


class OrderTest(Refusals):
    # Blocks with one fault each, in the order in which they are looked at, and the bound that is passed.
    FAULTS = (
        ([SET] * 25, 24),
        ([nested(SET)], 4),
        ([branch()] * 3, 2),
        ([loop()] * 3, 2),
        ([ANY] * 2, 1),
        ([note(row("x"))] * 3, 2),
    )

    def refused(self, plan):
        with self.assertRaises(TooGreat) as taken:
            must_plan(plan)
        return (taken.exception.number, taken.exception.most)

    def test_names_and_statements(self):
        self.assert_too_great(plan_of(*[SET] * 25, names=tuple("abcx")), 4, 3)

    def test_statements_and_depth(self):
        self.assert_too_great(plan_of(nested(SET), *[SET] * 20), 25, 24)
        self.assert_too_great(plan_of(nested(SET), *[SET] * 19), 5, 4)

    def test_depth_and_branches(self):
        self.assert_too_great(plan_of(branch(), branch(), branch(), nested(SET)), 5, 4)
        self.assert_too_great(plan_of(branch(), branch(), branch(), nested()), 5, 2)

    def test_branches_and_loops(self):
        self.assert_too_great(plan_of(*[loop()] * 4, *[branch()] * 3), 3, 2)
        self.assert_too_great(plan_of(*[loop()] * 4, *[branch()] * 2), 4, 2)

    def test_loops_and_given(self):
        self.assert_too_great(plan_of(ANY, ANY, *[loop()] * 3), 3, 2)
        self.assert_too_great(plan_of(ANY, ANY, *[loop()] * 2), 2, 1)

    def test_given_and_rows_noted(self):
        self.assert_too_great(plan_of(*[note(row("x"))] * 3, ANY, ANY), 2, 1)
        self.assert_too_great(plan_of(*[note(row("x"))] * 3, ANY), 3, 2)

    def test_all_of_them_mended_one_after_another(self):
        parts = [[SET] * 25, [nested(SET)], [branch()] * 3, [loop()] * 4, [ANY] * 2, [note(row("x"))] * 3]
        told = [(7, 3), (42, 24), (5, 4), (3, 2), (4, 2), (2, 1), (3, 2)]
        self.assertEqual(self.refused(plan_of(*sum(parts, []), names=tuple("qrstuvx"))), told[0])
        for gone in range(len(parts)):
            self.assertEqual(self.refused(plan_of(*sum(parts[gone:], []))), told[gone + 1])

    def test_rows_noted_and_names_of_the_starts_rows(self):
        self.assert_too_great(plan_of(*[note(row("x"))] * 3, rows=(row("q"),)), 3, 2)
        self.assert_no_name(plan_of(*[note(row("x"))] * 2, rows=(row("q"),)), "q")

    def test_each_that_is_too_great_and_a_wrong_name(self):
        for fault, most in self.FAULTS:
            plan = plan_of(*fault, rows=(row("q"),))
            self.assertEqual(self.refused(plan)[1], most)
            plan = plan_of(put("q"), *fault)
            self.assertEqual(self.refused(plan)[1], most)

    def test_each_that_is_too_great_and_a_measure(self):
        wrong = loop([loop()], MEASURE)
        for fault, most in self.FAULTS:
            self.assertEqual(self.refused(plan_of(wrong, *fault))[1], most)

    def test_names_of_the_starts_rows_and_of_the_first_statement(self):
        self.assert_no_name(plan_of(put("p"), rows=(row("q"),)), "q")
        self.assert_no_name(plan_of(put("p"), rows=(row("x"),)), "p")

    def test_names_and_a_measure_of_one_loop(self):
        for broken in (
            loop([loop()], MEASURE, asked=row("q")),
            loop([loop()], MEASURE, notes=(row("x"), row("q"))),
            loop([loop()], (total("x", "q"), 1)),
        ):
            self.assert_no_name(plan_of(broken), "q")
            self.assert_no_name(plan_of(SET, choose([], [broken])), "q")

    def test_a_measure_ahead_of_the_names_in_the_block(self):
        self.assert_no_measure(plan_of(loop([loop(asked=row("q"))], MEASURE)), (0,))
        self.assert_no_measure(plan_of(loop([put("q"), loop()], MEASURE)), (0,))
        self.assert_no_measure(plan_of(SET, loop([loop([put("x", "q")])], MEASURE)), (1,))

    def test_a_measure_and_a_name_in_another_statement(self):
        wrong = loop([loop()], MEASURE)
        self.assert_no_measure(plan_of(wrong, put("q")), (0,))
        self.assert_no_name(plan_of(put("q"), wrong), "q")
        self.assert_no_measure(plan_of(choose([wrong], [put("q")])), (0, 0, 0))
        self.assert_no_name(plan_of(choose([put("q")], [wrong])), "q")
        self.assert_no_name(plan_of(wrong, rows=(row("q"),)), "q")


class NamesTest(Refusals):
    def test_a_wrong_name_wherever_a_name_can_stand(self):
        for plan in (
            plan_of(rows=(row("q"),)),
            plan_of(rows=(row("x"), row("x", "q"))),
            plan_of(put("q")),
            plan_of(put("q", "q")),
            plan_of(put("x", "q")),
            plan_of(put("x", "x", "y", "q")),
            plan_of(("any", "q")),
            plan_of(note(row("q"))),
            plan_of(note(row("x", "y", "q"))),
            plan_of(note(row("x"), row("q"))),
            plan_of(branch(asked=row("q"))),
            plan_of(branch(asked=row("y", "q"))),
            plan_of(loop(asked=row("q"))),
            plan_of(loop(notes=(row("q"),))),
            plan_of(loop(notes=(row("x"), row("y", "q")))),
            plan_of(loop(measure=(total("q"), 1))),
            plan_of(loop(measure=(total("x", "q"), 1))),
        ):
            self.assert_no_name(plan, "q")

    def test_a_wrong_name_in_each_block(self):
        for wrong in (put("q"), ("any", "q"), note(row("q"))):
            for around in (choose([wrong]), choose([], [wrong]), branch([wrong]), branch([], [wrong]), loop([wrong])):
                self.assert_no_name(plan_of(around), "q")
                self.assert_no_name(plan_of(SET, loop([SET, around])), "q")

    def test_the_plans_names_alone_count(self):
        self.assert_no_name(plan_of(put("x"), names=("a",)), "x")
        self.assert_good(plan_of(put("a"), names=("a",)))
        self.assert_no_name(plan_of(put("z", "x", "y", "z"), names=("x", "z")), "y")

    def test_a_name_that_is_set_is_not_made_the_plans(self):
        self.assert_no_name(plan_of(put("q"), put("x", "q")), "q")

    def test_the_order_in_a_set(self):
        self.assert_no_name(plan_of(put("t", "q", "r")), "t")
        self.assert_no_name(plan_of(put("x", "q", "r")), "q")
        self.assert_no_name(plan_of(put("x", "q", "r", "x")), "q")

    def test_the_order_in_rows(self):
        self.assert_no_name(plan_of(rows=(row("s", "t"), row("q", "r"))), "s")
        self.assert_no_name(plan_of(rows=(row("x"), row("q", "r"))), "q")
        self.assert_no_name(plan_of(note(row("s", "t"), row("q", "r"))), "s")
        self.assert_no_name(plan_of(note(row("x"), row("q", "r"))), "q")

    def test_the_order_in_a_loop(self):
        def looped(asked, one, other, measured, block):
            return plan_of(loop([put(block)], (total(measured, "x"), 1), row(asked, "x"), (row(one, "x"), row(other, "x"))))

        self.assert_no_name(looped("w", "v", "u", "t", "s"), "w")
        self.assert_no_name(looped("x", "v", "u", "t", "s"), "v")
        self.assert_no_name(looped("x", "x", "u", "t", "s"), "u")
        self.assert_no_name(looped("x", "x", "x", "t", "s"), "t")
        self.assert_no_name(looped("x", "x", "x", "x", "s"), "s")
        self.assert_good(looped("x", "x", "x", "x", "x"))

    def test_a_statement_ahead_of_its_blocks(self):
        self.assert_no_name(plan_of(branch([put("p")], [put("q")], asked=row("r"))), "r")
        self.assert_no_name(plan_of(branch([put("s")], [put("q")])), "s")
        self.assert_no_name(plan_of(choose([put("s")], [put("q")])), "s")
        self.assert_no_name(plan_of(choose([], [put("s")]), put("q")), "s")

    def test_the_order_of_places(self):
        self.assert_no_name(plan_of(choose([SET, put("s")], [put("r")]), put("q")), "s")
        self.assert_no_name(plan_of(put("t"), choose([put("s")]), put("q")), "t")
        self.assert_no_name(plan_of(loop([loop([put("t")]), put("s")]), put("q")), "t")


class MeasuresTest(Refusals):
    def test_good_measures(self):
        self.assert_good(plan_of(loop([], MEASURE)))
        self.assert_good(plan_of(loop([SET, ANY, choose([SET], [branch()])], MEASURE)))
        self.assert_good(plan_of(loop([SET], MEASURE), loop([SET], MEASURE)))
        self.assert_good(plan_of(loop([loop([SET], MEASURE)])))
        self.assert_good(plan_of(loop([branch([], [loop([], MEASURE)])])))

    def test_a_loop_straight_in_the_block(self):
        self.assert_no_measure(plan_of(loop([loop()], MEASURE)), (0,))
        self.assert_no_measure(plan_of(loop([loop([], MEASURE)], MEASURE)), (0,))
        self.assert_no_measure(plan_of(SET, loop([SET, SET, loop()], MEASURE)), (1,))

    def test_a_loop_deeper_down(self):
        for around in (choose([loop()]), choose([], [loop()]), branch([loop()]), branch([], [SET, loop()])):
            self.assert_no_measure(plan_of(loop([around], MEASURE)), (0,))
        deep = choose([], [branch([loop()])])
        self.assert_no_measure(plan_of(SET, SET, loop([SET, deep], MEASURE)), (2,))

    def test_the_place_within_blocks(self):
        self.assert_no_measure(plan_of(SET, choose([], [SET, loop([branch([loop()])], MEASURE)])), (1, 1, 1))

    def test_a_loop_behind_or_ahead_is_none_in_the_block(self):
        self.assert_good(plan_of(loop(), loop([SET], MEASURE)))
        self.assert_good(plan_of(loop([SET], MEASURE), loop()))


class NothingChangedTest(Refusals):
    def test_the_plan_stays_as_it_was(self):
        for plan in (
            plan_of(SET, loop([ANY], MEASURE, notes=(row("x"),)), rows=(row("y"),)),
            plan_of(*[SET] * 25),
            plan_of(put("q")),
            plan_of(loop([loop()], MEASURE)),
        ):
            before = copy.deepcopy(plan)
            for _ in range(2):
                try:
                    must_plan(plan)
                except KeepError:
                    pass
                self.assertEqual(plan, before)

    def test_behind_a_refusal_as_ahead_of_it(self):
        good = plan_of(SET, loop([ANY], MEASURE))
        before = (places_of(good), loops_of(good))
        self.assert_no_name(plan_of(put("q")), "q")
        self.assert_good(good)
        self.assertEqual((places_of(good), loops_of(good)), before)


if __name__ == "__main__":
    unittest.main()
