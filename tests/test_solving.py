"""Points 1 to 3 and 17, and the interface of notekeep/solving.py."""

import copy
import itertools
import random
import unittest
from collections import Counter
from math import gcd

from notekeep.solving import met, shows

from kit import are_weights, is_met, least, more, names_of

# So long that no two of them are easily put in lowest terms.
LONG = 10 ** 9999 + 19
OTHER_LONG = 3 ** 20950 + 4


class Answers(unittest.TestCase):
    # Told sides aren't written out where they are wrong: Python refuses that for long numbers.
    def look(self, rows):
        told = met(rows)
        self.assertIs(type(told), tuple)
        self.assertEqual(len(told), 2)
        word, answer = told
        if word == "point":
            self.assertIs(type(answer), dict)
            self.assertEqual(set(answer), names_of(rows))
            for value in answer.values():
                self.assertEqual([type(value), type(value[0]), type(value[1])], [tuple, int, int])
                self.assertTrue(value[1] > 0 and gcd(*value) == 1 and len(value) == 2)
            self.assertTrue(is_met(rows, answer))
        else:
            self.assertEqual(word, "weights")
            self.assertIs(type(answer), tuple)
            self.assertTrue(all(type(weight) is int for weight in answer))
            self.assertTrue(are_weights(rows, answer))
            self.assertIs(shows(rows, answer), True)
        return word

    def assert_point(self, *rows):
        self.assertEqual(self.look(rows), "point")
        self.assertEqual(self.look(list(reversed(rows))), "point")

    def assert_weights(self, *rows):
        self.assertEqual(self.look(rows), "weights")
        self.assertEqual(self.look(list(reversed(rows))), "weights")


class MetTest(Answers):
    def test_no_rows(self):
        self.assertEqual(met([]), ("point", {}))
        self.assertEqual(met(()), ("point", {}))

    def test_rows_without_names_that_are_so(self):
        self.assertEqual(met([least(0)]), ("point", {}))
        self.assertEqual(met([least(-1), more(-1), least(0)]), ("point", {}))

    def test_rows_without_names_that_are_not_so(self):
        self.assert_weights(more(0))
        self.assert_weights(least(1))
        self.assert_weights(more(1))
        self.assert_weights(least(0), more(0), least(-5))
        self.assert_weights(least(0, x=1), least(7))
        self.assert_weights(least(0, x=1), least(0, x=-1), more(0))

    def test_one_row(self):
        for bound, weight in itertools.product((-5, 0, 7), (-3, -1, 1, 2)):
            self.assert_point(least(bound, x=weight))
            self.assert_point(more(bound, x=weight))
            self.assert_point(more(bound, x=weight, y=-2, z=1, A=3))

    def test_one_name_bounded_from_both_sides(self):
        self.assert_point(least(3, x=1), least(-3, x=-1))
        self.assertEqual(met([least(3, x=1), least(-3, x=-1)]), ("point", {"x": (3, 1)}))
        self.assertEqual(met([least(1, x=2), least(-2, x=-4)]), ("point", {"x": (1, 2)}))
        self.assert_weights(more(3, x=1), least(-3, x=-1))
        self.assert_weights(least(3, x=1), more(-3, x=-1))
        self.assert_weights(more(3, x=1), more(-3, x=-1))
        self.assert_weights(least(4, x=1), least(-3, x=-1))
        self.assert_point(more(3, x=1), more(-4, x=-1))
        self.assert_point(more(3, x=10), more(-4, x=-10))
        self.assert_weights(more(3, x=10), more(-4, x=-10), least(4, x=10))
        self.assert_point(least(2, x=6), least(-1, x=-3))
        self.assert_weights(more(2, x=6), least(-1, x=-3))

    def test_bounds_that_are_the_same_with_least_and_more(self):
        self.assert_weights(least(3, x=1), more(3, x=1), least(-3, x=-1))
        self.assert_weights(least(3, x=1), more(-3, x=-1), least(-3, x=-1))
        self.assert_point(least(3, x=1), more(3, x=1), least(-4, x=-1))

    def test_several_names(self):
        self.assert_point(least(1, x=1, y=1), least(1, x=1, y=-1), least(-1, x=-1))
        self.assertEqual(met([least(1, x=1, y=1), least(1, x=1, y=-1), least(-1, x=-1)])[1], {"x": (1, 1), "y": (0, 1)})
        self.assert_weights(more(1, x=1, y=1), least(1, x=1, y=-1), least(-1, x=-1))
        self.assert_weights(least(1, x=1, y=-1), least(0, y=1, z=-1), least(0, x=-1, z=1))
        self.assert_point(least(0, x=1, y=-1), least(0, y=1, z=-1), least(0, x=-1, z=1))
        self.assert_weights(more(0, x=1, y=-1), least(0, y=1, z=-1), least(0, x=-1, z=1))

    def test_great_letters_among_the_names(self):
        rows = [least(2, A=1, x=1), least(-1, A=-1), least(-1, x=-1)]
        self.assertEqual(met(rows), ("point", {"A": (1, 1), "x": (1, 1)}))
        self.assert_weights(more(2, A=1, x=1), least(-1, A=-1), least(-1, x=-1))
        self.assert_weights(least(1, A=1, a=-1), least(0, A=-1, a=1))
        self.assert_point(least(1, A=1, Z=1, a=-1), least(0, A=-1, a=1))

    def test_a_name_that_falls_out(self):
        # y is bounded from one side alone, and z from none once y's rows are gone.
        rows = [least(0, x=1), least(5, y=1, z=-1), least(7, y=1, z=1)]
        self.assert_point(*rows)
        self.assertEqual(set(met(rows)[1]), {"x", "y", "z"})

    def test_eight_rows_with_four_names(self):
        cube = [least(0, **{name: 1}) for name in "Axyz"] + [least(-1, **{name: -1}) for name in "Axyz"]
        self.assert_point(*cube)
        self.assert_point(*[more(row[2], **dict(row[1])) for row in cube])
        tight = cube[:7] + [least(4, A=1, x=1, y=1, z=1)]
        self.assert_point(*tight)
        self.assert_weights(*cube[:4], *cube[5:], least(1, A=-1))
        self.assert_weights(least(5, A=1, x=1, y=1, z=1), *cube[4:])
        self.assert_point(least(4, A=1, x=1, y=1, z=1), *cube[4:])
        self.assert_weights(more(4, A=1, x=1, y=1, z=1), *cube[4:])
        pinned = [least(10, A=1, x=2, y=3, z=4), least(2, A=1, x=-1, y=1, z=1), least(1, x=1, y=1, z=-1), least(1, z=1)]
        opposite = [least(-row[2], **{name: -weight for name, weight in row[1]}) for row in pinned]
        self.assertEqual(met(pinned + opposite)[1], {"A": (1, 1), "x": (1, 1), "y": (1, 1), "z": (1, 1)})
        self.assert_weights(*pinned, *opposite[:3], more(-1, z=-1))

    def test_four_equal_pairs_of_rows(self):
        row = least(3, w=1, x=-2, y=3, z=-4)
        back = least(-3, w=-1, x=2, y=-3, z=4)
        self.assert_point(*[row] * 4, *[back] * 4)
        self.assert_weights(*[row] * 4, *[back] * 3, more(-3, w=-1, x=2, y=-3, z=4))

    def test_some_rows_beyond_eight(self):
        rows = [least(one, x=one + 1, y=1 - one) for one in range(12)]
        self.look(rows)
        self.assert_weights(*rows, least(1, x=-1), least(1, y=-1), least(1, x=1, y=1))

    def test_all_small_pairs_and_triples_of_rows(self):
        rows = [
            (word, tuple((name, weight) for name, weight in zip("xy", weights) if weight), bound)
            for word in ("least", "more") for weights in itertools.product((-1, 0, 2), repeat=2) for bound in (-1, 0, 1)
        ]
        words = Counter(self.look(pair) for pair in itertools.product(rows, repeat=2))
        words.update(self.look(some) for some in itertools.product(rows[::4], repeat=3))
        self.assertGreater(min(words["point"], words["weights"]), 500)

    def test_rows_of_chance(self):
        chance = random.Random(17)
        words = Counter()
        for number in range(6000):
            names = sorted(chance.sample("ABxyz", chance.randint(1, 4)))
            most = chance.choice((1, 2, 5, 10 ** 12))
            rows = []
            for _ in range(chance.randint(1, 8) if number % 2 else 8):
                weights = [(name, chance.randint(-most, most)) for name in names]
                terms = tuple((name, weight) for name, weight in weights if weight != 0)
                rows.append((chance.choice(("least", "least", "more")), terms, chance.randint(-most, most)))
            words[self.look(rows)] += 1
        self.assertGreater(min(words.values()), 1000, words)

    def test_rows_of_chance_about_one_point(self):
        # All rows are just met at one point: with "more" among them they often can't be met at all.
        chance = random.Random(18)
        words = Counter()
        for _ in range(3000):
            at = {name: chance.randint(-5, 5) for name in "Axyz"}
            rows = []
            for _ in range(chance.randint(4, 8)):
                weights = {name: chance.choice((-2, -1, 0, 0, 1, 3)) for name in at}
                bound = sum(weight * at[name] for name, weight in weights.items())
                rows.append(chance.choice((least, least, least, more))(bound, **weights))
            words[self.look(rows)] += 1
        self.assertGreater(min(words.values()), 200, words)


class LongNumbersTest(Answers):
    def test_one_name(self):
        self.assert_point(least(LONG, x=OTHER_LONG), least(-LONG, x=-OTHER_LONG))
        self.assert_weights(more(LONG, x=OTHER_LONG), least(-LONG, x=-OTHER_LONG))
        self.assert_point(more(LONG, x=OTHER_LONG), more(-LONG - 1, x=-OTHER_LONG))
        self.assert_point(more(LONG, x=LONG + 1), more(-LONG - 1, x=-LONG - 2))
        self.assert_weights(least(LONG + 1, x=LONG + 2), least(-LONG, x=-LONG - 1))

    def test_two_names(self):
        rows = [least(LONG, x=OTHER_LONG, y=1), least(OTHER_LONG, x=1, y=-LONG), least(5, x=-LONG)]
        self.look(rows)
        self.assert_weights(*rows, least(LONG * LONG, x=-1))

    def test_eight_rows_with_four_names(self):
        chance = random.Random(19)
        for bound in (0, 3 * 10 ** 9999):
            rows = []
            for number in range(8):
                weights = {name: chance.randrange(-10 ** 10000, 10 ** 10000) for name in "Axyz"}
                rows.append((least, more)[number % 2](chance.randrange(-10 ** 10000, 10 ** 10000) - bound, **weights))
            self.look(rows)

    def test_a_point_that_is_the_only_one(self):
        chance = random.Random(20)
        rows = []
        for _ in range(4):
            weights = {name: chance.randrange(-10 ** 2000, 10 ** 2000) for name in "Axyz"}
            bound = chance.randrange(-10 ** 2000, 10 ** 2000)
            rows.append(least(bound, **weights))
            rows.append(least(-bound, **{name: -weight for name, weight in weights.items()}))
        self.assert_point(*rows)
        word, terms, bound = rows[0]
        self.assert_weights(("more", terms, bound), *rows[1:])
        self.assert_weights(("least", terms, bound + 1), *rows[1:])
        self.assert_point(("more", terms, bound - 1), *rows[1:])


class ShowsTest(unittest.TestCase):
    PAIR = (least(3, x=2), least(-1, x=-1))

    def test_bounds_above_nought(self):
        self.assertIs(shows(self.PAIR, (1, 2)), True)
        self.assertIs(shows(self.PAIR, (5, 10)), True)
        self.assertIs(shows([least(1)], (1,)), True)
        self.assertIs(shows([more(1)], (1,)), True)

    def test_a_name_that_is_left(self):
        for weights in ((1, 1), (1, 0), (0, 1), (2, 3), (10, 19)):
            self.assertIs(shows(self.PAIR, weights), False)
        three = (least(1, x=1, y=1), least(0, x=-1), least(0, y=-1))
        self.assertIs(shows(three, (1, 1, 1)), True)
        self.assertIs(shows(three, (1, 1, 0)), False)
        self.assertIs(shows(three, (1, 0, 1)), False)
        self.assertIs(shows((least(1, A=1), least(1, a=-1)), (1, 1)), False)
        self.assertIs(shows((least(1, A=1), least(1, A=-1)), (1, 1)), True)

    def test_bounds_below_nought(self):
        self.assertIs(shows((least(3, x=1), least(-4, x=-1)), (1, 1)), False)
        self.assertIs(shows((more(3, x=1), more(-4, x=-1)), (1, 1)), False)
        self.assertIs(shows([least(-1)], (1,)), False)
        self.assertIs(shows([more(-1)], (4,)), False)

    def test_bounds_of_just_nought(self):
        self.assertIs(shows((least(3, x=1), least(-3, x=-1)), (1, 1)), False)
        self.assertIs(shows((more(3, x=1), least(-3, x=-1)), (1, 1)), True)
        self.assertIs(shows((least(3, x=1), more(-3, x=-1)), (2, 2)), True)
        self.assertIs(shows([least(0)], (1,)), False)
        self.assertIs(shows([more(0)], (1,)), True)

    def test_a_more_with_the_weight_nought(self):
        rows = (least(3, x=1), least(-3, x=-1), more(0, x=1))
        self.assertIs(shows(rows, (1, 1, 0)), False)
        self.assertIs(shows(rows + (more(0),), (1, 1, 0, 0)), False)
        self.assertIs(shows(rows + (more(0),), (1, 1, 0, 1)), True)
        self.assertIs(shows(rows, (0, 1, 1)), False)
        self.assertIs(shows((least(0, x=1), least(0, x=-1), more(0, x=1)), (0, 1, 1)), True)

    def test_weights_below_nought(self):
        rows = (least(3, x=1), least(5, x=1))
        self.assertIs(shows(rows, (-1, 1)), False)
        self.assertIs(shows((least(3), least(-5)), (2, -1)), False)
        self.assertIs(shows(self.PAIR, (-1, -2)), False)
        self.assertIs(shows([least(-1)], (-1,)), False)
        self.assertIs(shows(self.PAIR + (least(0),), (1, 2, -1)), False)

    def test_too_few_or_too_many(self):
        self.assertIs(shows(self.PAIR, ()), False)
        self.assertIs(shows(self.PAIR, (1,)), False)
        self.assertIs(shows(self.PAIR, (1, 2, 0)), False)
        self.assertIs(shows(self.PAIR, (1, 2, 3)), False)
        self.assertIs(shows([least(1)], (1, 1)), False)
        self.assertIs(shows([least(1), least(1)], (1,)), False)
        self.assertIs(shows([], (1,)), False)

    def test_all_nought(self):
        self.assertIs(shows([], ()), False)
        self.assertIs(shows(self.PAIR, (0, 0)), False)
        self.assertIs(shows([more(0), more(5), least(1)], (0, 0, 0)), False)

    def test_lists_and_tuples_of_rows(self):
        for weights in ((1, 2), (1, 1), ()):
            self.assertIs(shows(list(self.PAIR), weights), shows(tuple(self.PAIR), weights))

    def test_all_small_weights(self):
        chance = random.Random(21)
        words = Counter()
        for _ in range(400):
            rows = []
            for _ in range(3):
                weights = {name: chance.randint(-1, 1) for name in "xy"}
                rows.append(chance.choice((least, more))(chance.randint(-1, 1), **weights))
            for weights in itertools.product(range(-1, 3), repeat=3):
                told = shows(rows, weights)
                self.assertIs(told, are_weights(rows, weights))
                words[told] += 1
        self.assertGreater(words[True], 200)

    def test_never_both(self):
        chance = random.Random(22)
        for _ in range(300):
            rows = [least(chance.randint(-2, 1), x=chance.randint(-2, 2), y=chance.randint(-2, 2)) for _ in range(4)]
            if met(rows)[0] == "point":
                for weights in itertools.product(range(3), repeat=4):
                    self.assertIs(shows(rows, weights), False)

    def test_long_numbers(self):
        rows = (least(OTHER_LONG, x=LONG), least(1 - LONG, x=-OTHER_LONG))
        self.assertIs(shows(rows, (OTHER_LONG, LONG)), OTHER_LONG * OTHER_LONG + LONG - LONG * LONG > 0)
        rows = (least(OTHER_LONG, x=LONG), least(-OTHER_LONG, x=-LONG))
        self.assertIs(shows(rows, (LONG, LONG)), False)
        self.assertIs(shows((rows[0], more(-OTHER_LONG, x=-LONG)), (LONG, LONG)), True)
        self.assertIs(shows((rows[0], more(-OTHER_LONG, x=-LONG)), (LONG, LONG + 1)), False)
        self.assertIs(shows((rows[0], least(1 - OTHER_LONG, x=-LONG)), (LONG, LONG)), True)


class OwnTest(unittest.TestCase):
    ROWS = ([least(1, x=1, y=1), least(0, x=-1)], [least(1, x=1, y=1), least(0, x=-1), least(0, y=-1)], [])

    def test_nothing_is_changed_and_asked_again(self):
        for rows in self.ROWS:
            before = copy.deepcopy(rows)
            told = met(rows)
            kept = copy.deepcopy(told)
            shows(rows, (1,) * len(rows))
            self.assertEqual(rows, before)
            if told[0] == "point":
                told[1].clear()
            self.assertEqual(met(rows), kept)

    def test_a_list_and_a_tuple_of_rows(self):
        for rows in self.ROWS:
            self.assertEqual(met(rows), met(tuple(rows)))

    def test_what_is_done_to_the_rows_changes_nothing_told(self):
        rows = list(self.ROWS[0])
        told = met(rows)
        kept = copy.deepcopy(told)
        rows.clear()
        self.assertEqual(told, kept)


if __name__ == "__main__":
    unittest.main()
