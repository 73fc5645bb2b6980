"""Points 1 to 3 and 9 over the whole program, and its stages together."""

import copy
import unittest
from collections import Counter

from notekeep.code import code, walk
from notekeep.duties import duties
from notekeep.errors import NoMeasure
from notekeep.greatest import greatest
from notekeep.measures import measure_for
from notekeep.papers import lets_by, papers_of
from notekeep.plans import loops_of, must_plan, places_of, statement_at
from notekeep.runs import run
from notekeep.texts import read, shown

from kit import KEPT, REFUSED, Maker, told_by_hand

ASKED_OF_PLANS = (
    must_plan, code, duties, papers_of, greatest, lambda plan: lets_by(plan, []), lambda plan: run(plan, {}, [], []),
    lambda plan: measure_for(plan, (0,)),
)


def measures_of(plan):
    found = []
    for place in loops_of(plan):
        try:
            found.append(measure_for(plan, place))
        except NoMeasure as error:
            found.append(error.place)
    return found


def all_that_is_told(plan):
    kept = papers_of(plan)
    return (
        shown(plan), places_of(plan), loops_of(plan), [statement_at(plan, place) for place in places_of(plan)], code(plan),
        duties(plan), kept, lets_by(plan, kept[1] if kept[0] == "kept" else []), greatest(plan), measures_of(plan),
    )


class WholeTest(unittest.TestCase):
    def plans(self, seed, count):
        maker = Maker(seed)
        return KEPT + tuple(maker.plan() for _ in range(count))

    # Runs of both, and of the code of both, from starts that meet the plan's rows.
    def look_at_runs(self, plan, other, maker, words):
        for _ in range(3):
            start = maker.start(plan[0])
            turns = maker.turns()
            givens = maker.givens()
            told = run(plan, start, turns, givens)
            self.assertEqual(told, told_by_hand(plan, start, turns, givens))
            self.assertEqual(run(other, start, turns, givens), told)
            if told[0] != "unmet":
                self.assertEqual(walk(code(plan), plan[0], start, turns, givens), told)
                self.assertEqual(walk(code(other), other[0], start, turns, givens), told)
            words[told[0]] += 1

    def test_the_way_through_the_text(self):
        maker = Maker(71)
        words = Counter()
        for plan in self.plans(72, 400):
            other = read(shown(plan))
            self.assertEqual(other, plan)
            self.assertEqual(all_that_is_told(other), all_that_is_told(plan))
            self.look_at_runs(plan, other, maker, words)
        self.assertGreater(min(words[word] for word in ("done", "going", "broken", "unmet", "wanting")), 20, words)

    def test_the_way_through_the_greatest_notes(self):
        maker = Maker(73)
        words = Counter()
        for plan in self.plans(74, 400):
            stays = greatest(plan)[0]
            other = read(shown(stays))
            self.assertEqual(all_that_is_told(other), all_that_is_told(stays))
            self.look_at_runs(stays, other, maker, words)
            self.assertEqual(places_of(stays), places_of(plan))

    # A run isn't broken at a loop's notes that stay, as long as no note or measure is broken ahead.
    def test_runs_with_the_greatest_notes(self):
        maker = Maker(75)
        looked = 0
        for plan in self.plans(76, 1500):
            stays, left = greatest(plan)
            told = papers_of(stays)
            if left and told[0] == "kept":
                looked += 1
                self.assertIs(lets_by(stays, told[1]), True)
                for _ in range(5):
                    word = run(stays, maker.start(plan[0]), maker.turns(), maker.givens())[0]
                    self.assertNotEqual(word, "broken")
        self.assertGreater(looked, 30)

    def test_papers_of_what_was_read(self):
        for plan in KEPT:
            papers = papers_of(read(shown(plan)))[1]
            self.assertIs(lets_by(plan, papers), True)

    def test_everything_asked_of_a_plan_refuses_it_first(self):
        for plan, error, fields in REFUSED:
            before = copy.deepcopy(plan)
            for asked in ASKED_OF_PLANS:
                with self.assertRaises(error) as taken:
                    asked(plan)
                self.assertIs(type(taken.exception), error)
                self.assertEqual(vars(taken.exception), fields)
            self.assertEqual(plan, before)

    def test_behind_a_refusal_as_ahead_of_it(self):
        for plan in self.plans(77, 100):
            before = copy.deepcopy(plan)
            told = all_that_is_told(plan)
            for refused, error, fields in REFUSED:
                for asked in ASKED_OF_PLANS:
                    self.assertRaises(error, asked, refused)
            self.assertEqual(all_that_is_told(plan), told)
            self.assertEqual(plan, before)

    def test_true_and_false_are_not_told(self):
        def parts(thing):
            yield thing
            if isinstance(thing, (tuple, list)):
                for part in thing:
                    yield from parts(part)
            elif isinstance(thing, dict):
                yield from parts(list(thing.items()))

        for plan in self.plans(78, 100):
            told = [duties(plan), papers_of(plan), greatest(plan), measures_of(plan), code(plan)]
            self.assertFalse(any(type(part) is bool for part in parts(told)))


if __name__ == "__main__":
    unittest.main()
