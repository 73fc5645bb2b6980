"""Points 1, 2 and 4 to 6, and the interface of notekeep/sums.py."""

import copy
import itertools
import unittest
from fractions import Fraction
from math import gcd

from notekeep.errors import NoName
from notekeep.sums import contrary, is_so, less, made, minus, plus, times, worth

WORDS = ("least", "more")

# Numbers of 60 figures and of more, with and without common divisors, below nought too.
P = 10 ** 59 + 7
Q = 7 ** 80 + 2
LONG = 10 ** 9999 + 19
OTHER_LONG = 3 ** 20950 + 4


def fraction(number):
    return (number.numerator, number.denominator)


def number(pair):
    return Fraction(pair[0], pair[1])


SMALL = [fraction(one) for one in sorted({Fraction(top, bottom) for top in range(-5, 6) for bottom in range(1, 5)})]
GREAT = [
    made(P, Q), made(-Q, P), made(P * Q, 1), made(1, P), made(-P ** 3, Q ** 2), made(P * 6, Q * 4),
]


class Kinds(unittest.TestCase):
    def assert_fraction(self, told):
        self.assertIs(type(told), tuple)
        self.assertEqual(len(told), 2)
        self.assertIs(type(told[0]), int)
        self.assertIs(type(told[1]), int)
        self.assertGreater(told[1], 0)
        self.assertEqual(gcd(told[0], told[1]), 1)

    def assert_told(self, told, wanted):
        self.assert_fraction(told)
        # Not by assertEqual: it would write the numbers out, and Python refuses that for long ones.
        self.assertTrue(told == fraction(wanted))


class MadeTest(Kinds):
    def test_lowest_terms(self):
        self.assertEqual(made(6, 4), (3, 2))
        self.assertEqual(made(3, 2), (3, 2))
        self.assertEqual(made(-6, 4), (-3, 2))
        self.assertEqual(made(12, 4), (3, 1))
        self.assertEqual(made(4, 12), (1, 3))

    def test_bottoms_below_nought(self):
        self.assertEqual(made(6, -4), (-3, 2))
        self.assertEqual(made(-6, -4), (3, 2))
        self.assertEqual(made(1, -1), (-1, 1))

    def test_nought(self):
        for bottom in (1, 2, -1, -7, P, -P, LONG, -LONG):
            self.assertEqual(made(0, bottom), (0, 1))

    def test_all_small_quotients(self):
        for top in range(-30, 31):
            for bottom in range(-30, 31):
                if bottom != 0:
                    self.assert_told(made(top, bottom), Fraction(top, bottom))

    def test_sixty_figures_and_more(self):
        for top, bottom in itertools.product((P, -P, Q, P * Q, -P * 12, Q ** 9), (P, Q, -Q, Q * 18, -P * Q)):
            self.assert_told(made(top, bottom), Fraction(top, bottom))

    def test_thousands_of_figures(self):
        longs = (LONG, OTHER_LONG, LONG - OTHER_LONG, P * OTHER_LONG, P * LONG, 10 ** 9999, 2 ** 33000, LONG * OTHER_LONG)
        for top, bottom in itertools.product(longs, longs):
            self.assert_told(made(top, bottom), Fraction(top, bottom))
            self.assert_told(made(-top, bottom), Fraction(-top, bottom))

    def test_thousands_of_figures_beside_few(self):
        for long, short in itertools.product((LONG, OTHER_LONG), (1, 2, 3, 10, P, Q ** 30)):
            self.assert_told(made(long, short), Fraction(long, short))
            self.assert_told(made(short, -long), Fraction(-short, long))
            self.assert_told(made(long * short, long), Fraction(short))
            self.assert_told(made(long, long * short), Fraction(1, short))
            self.assert_told(made(long * short + 1, long), Fraction(long * short + 1, long))

    def test_lengths_about_where_the_way_of_dividing_changes(self):
        for bits in (250, 256, 257, 8190, 8191, 8192, 8193, 8194, 8448, 9000, 16384):
            for one, other in ((-1, 1), (1, -1), (3, 5), (0, 2), (12, 18), (0, 0)):
                top = (3 ** bits >> (3 ** bits).bit_length() - bits) + one
                bottom = (7 ** bits >> (7 ** bits).bit_length() - bits) + other
                self.assert_told(made(top * 30, bottom * 42), Fraction(top * 30, bottom * 42))
                self.assert_told(made(2 ** bits + one, 2 ** bits + other), Fraction(2 ** bits + one, 2 ** bits + other))

    def test_the_longest_way_of_dividing(self):
        one, other = 1, 1
        for _ in range(48000):
            one, other = one + other, one
        self.assert_told(made(one, other), Fraction(one, other))
        self.assert_told(made(one * P, other * P), Fraction(one, other))
        self.assert_told(made(other * Q, one * P), Fraction(other * Q, one * P))

    def test_leading_bits_that_leave_no_rest_to_divide_by(self):
        for small in (2 ** 255 - 1, 2 ** 254 - 1, (2 ** 256 + 2) // 3):
            for behind, other in itertools.product((8000, 9001), (0, 1, 3, 2 ** 7999)):
                top = (2 ** 255 << behind) + other
                bottom = (small << behind) + 1
                self.assert_told(made(top, bottom), Fraction(top, bottom))
                self.assert_told(made(bottom * P, top * P), Fraction(bottom, top))

    def test_a_common_divisor_of_many_figures(self):
        self.assert_told(made(LONG * OTHER_LONG, OTHER_LONG * P), Fraction(LONG, P))
        self.assert_told(made(LONG * OTHER_LONG * 6, -OTHER_LONG * OTHER_LONG * 4), Fraction(-LONG * 3, OTHER_LONG * 2))


class ReckoningTest(Kinds):
    def test_plainly(self):
        self.assertEqual(plus((1, 2), (1, 3)), (5, 6))
        self.assertEqual(plus((1, 2), (1, 2)), (1, 1))
        self.assertEqual(minus((1, 2), (1, 3)), (1, 6))
        self.assertEqual(minus((1, 3), (1, 2)), (-1, 6))
        self.assertEqual(times((2, 3), (3, 4)), (1, 2))
        self.assertEqual(times((-2, 3), (3, 2)), (-1, 1))

    def test_all_pairs(self):
        for one, other in itertools.product(SMALL + GREAT, repeat=2):
            self.assert_told(plus(one, other), number(one) + number(other))
            self.assert_told(minus(one, other), number(one) - number(other))
            self.assert_told(times(one, other), number(one) * number(other))

    def test_minus_undoes_plus(self):
        for one, other in itertools.product(SMALL + GREAT, repeat=2):
            self.assertEqual(minus(plus(one, other), other), one)
            self.assertEqual(plus(minus(one, other), other), one)

    def test_a_fraction_less_itself_is_nought(self):
        for one in SMALL + GREAT:
            self.assertEqual(minus(one, one), (0, 1))

    def test_times_one_and_nought(self):
        for one in SMALL + GREAT:
            self.assertEqual(times(one, (1, 1)), one)
            self.assertEqual(times((1, 1), one), one)
            self.assertEqual(times(one, (0, 1)), (0, 1))
            self.assertEqual(times((0, 1), one), (0, 1))

    def test_thousands_of_figures(self):
        one = made(LONG, OTHER_LONG)
        other = made(-OTHER_LONG - 2, LONG)
        self.assert_told(plus(one, other), number(one) + number(other))
        self.assert_told(minus(one, other), number(one) - number(other))
        self.assert_told(times(one, other), number(one) * number(other))
        self.assertTrue(minus(plus(one, other), other) == one)


class LessTest(unittest.TestCase):
    def test_plainly(self):
        self.assertIs(less((1, 3), (1, 2)), True)
        self.assertIs(less((1, 2), (1, 3)), False)
        self.assertIs(less((-1, 2), (-1, 3)), True)
        self.assertIs(less((-1, 3), (-1, 2)), False)
        self.assertIs(less((-1, 2), (0, 1)), True)
        self.assertIs(less((0, 1), (-1, 2)), False)

    def test_all_pairs(self):
        for one, other in itertools.product(SMALL + GREAT, repeat=2):
            self.assertIs(less(one, other), number(one) < number(other))

    def test_of_a_fraction_and_itself(self):
        for one in SMALL + GREAT:
            self.assertIs(less(one, one), False)

    def test_thousands_of_figures_that_differ_by_little(self):
        self.assertIs(less((LONG, LONG + 1), (LONG + 1, LONG + 2)), True)
        self.assertIs(less((-LONG, LONG + 1), (-LONG - 1, LONG + 2)), False)


X = (("x", 1),)
XY = (("x", 2), ("y", -3))
XYZ = (("x", 1), ("y", 1), ("z", 1))


class WorthTest(Kinds):
    def test_plainly(self):
        point = {"x": (1, 2), "y": (1, 3)}
        self.assertEqual(worth((XY, 1, 1), point), (1, 1))
        self.assertEqual(worth((XY, 1, 2), point), (1, 2))
        self.assertEqual(worth((XY, 0, 1), point), (0, 1))
        self.assertEqual(worth((X, -3, 1), point), (-5, 2))
        self.assertEqual(worth((X, 0, 5), point), (1, 10))

    def test_by_divides_the_whole_too(self):
        self.assertEqual(worth((X, 3, 2), {"x": (1, 1)}), (2, 1))

    def test_without_terms(self):
        for point in ({}, {"x": (1, 2)}):
            self.assertEqual(worth(((), 0, 1), point), (0, 1))
            self.assertEqual(worth(((), 0, 9), point), (0, 1))
            self.assertEqual(worth(((), 7, 1), point), (7, 1))
            self.assertEqual(worth(((), -6, 4), point), (-3, 2))

    def test_many_sums_at_many_points(self):
        for one, other, whole, by in itertools.product((-3, -1, 2, 6), (-2, 1, 9), (-4, 0, 3), (1, 2, 6)):
            for first, second in itertools.product(SMALL[::4] + GREAT[:2], repeat=2):
                wanted = (one * number(first) + other * number(second) + whole) / by
                told = worth(((("a", one), ("z", other)), whole, by), {"z": second, "a": first})
                self.assert_told(told, wanted)

    def test_every_letter(self):
        letters = "abcdefghijklmnopqrstuvwxyz"
        terms = tuple((letter, index + 1) for index, letter in enumerate(letters))
        point = {letter: (1, index + 1) for index, letter in enumerate(letters)}
        self.assertEqual(worth((terms, 0, 1), point), (26, 1))

    def test_numbers_of_many_figures(self):
        point = {"x": made(LONG, OTHER_LONG), "y": made(P, LONG)}
        told = worth((((("x", OTHER_LONG), ("y", -Q))), LONG, P), point)
        wanted = (OTHER_LONG * number(point["x"]) - Q * number(point["y"]) + LONG) / P
        self.assert_told(told, wanted)

    def test_other_names_are_passed_by(self):
        self.assertEqual(worth((X, 0, 1), {"a": (5, 1), "x": (1, 2), "z": (7, 1)}), (1, 2))


class IsSoTest(unittest.TestCase):
    def test_at_the_bound_and_at_either_side(self):
        for terms, point in ((X, {"x": (3, 1)}), (XY, {"x": (3, 1), "y": (1, 1)}), (XYZ, {"x": (1, 2), "y": (1, 3), "z": (13, 6)})):
            self.assertIs(is_so(("least", terms, 3), point), True)
            self.assertIs(is_so(("least", terms, 2), point), True)
            self.assertIs(is_so(("least", terms, 4), point), False)
            self.assertIs(is_so(("more", terms, 3), point), False)
            self.assertIs(is_so(("more", terms, 2), point), True)
            self.assertIs(is_so(("more", terms, 4), point), False)

    def test_close_to_the_bound(self):
        for step in (2, 10 ** 60, LONG):
            above = {"x": made(-3 * step + 1, step)}
            below = {"x": made(-3 * step - 1, step)}
            for word in WORDS:
                self.assertIs(is_so((word, X, -3), above), True)
                self.assertIs(is_so((word, X, -3), below), False)

    def test_without_terms(self):
        self.assertIs(is_so(("least", (), 0), {}), True)
        self.assertIs(is_so(("least", (), 1), {}), False)
        self.assertIs(is_so(("least", (), -1), {}), True)
        self.assertIs(is_so(("more", (), 0), {}), False)
        self.assertIs(is_so(("more", (), -1), {}), True)
        self.assertIs(is_so(("more", (), 1), {"x": (9, 1)}), False)

    def test_many_rows_at_many_points(self):
        for one, other, bound in itertools.product((-3, 1, 4), (-2, 5), range(-4, 5)):
            terms = (("x", one), ("y", other))
            for first, second in itertools.product(SMALL[::3], repeat=2):
                added = one * number(first) + other * number(second)
                point = {"x": first, "y": second}
                self.assertIs(is_so(("least", terms, bound), point), added >= bound)
                self.assertIs(is_so(("more", terms, bound), point), added > bound)

    def test_other_names_are_passed_by(self):
        self.assertIs(is_so(("least", X, 1), {"w": (0, 1), "x": (1, 1), "y": (0, 1)}), True)


class ContraryTest(unittest.TestCase):
    def test_plainly(self):
        self.assertEqual(contrary(("least", XY, 5)), ("more", (("x", -2), ("y", 3)), -5))
        self.assertEqual(contrary(("more", XY, -5)), ("least", (("x", -2), ("y", 3)), 5))
        self.assertEqual(contrary(("least", (), 0)), ("more", (), 0))
        self.assertEqual(contrary(("more", (), 4)), ("least", (), -4))

    def test_the_kinds_told(self):
        told = contrary(("least", XY, 5))
        self.assertIs(type(told), tuple)
        self.assertIs(type(told[1]), tuple)
        self.assertTrue(all(type(term) is tuple for term in told[1]))

    def test_the_contrary_of_the_contrary(self):
        for word, terms, bound in itertools.product(WORDS, ((), X, XY, XYZ), (-P, -1, 0, 1, P)):
            row = (word, terms, bound)
            self.assertEqual(contrary(contrary(row)), row)

    def test_just_one_of_both_is_so(self):
        for word, one, other, bound in itertools.product(WORDS, (-2, 1), (-1, 3), range(-3, 4)):
            row = (word, (("x", one), ("y", other)), bound)
            for first, second in itertools.product(SMALL[::3], repeat=2):
                point = {"x": first, "y": second}
                self.assertIs(is_so(contrary(row), point), not is_so(row, point))

    def test_just_one_of_both_is_so_without_terms(self):
        for word, bound in itertools.product(WORDS, (-1, 0, 1)):
            row = (word, (), bound)
            self.assertIs(is_so(contrary(row), {}), not is_so(row, {}))


class NoNameTest(unittest.TestCase):
    def assert_lacks(self, terms, point, name):
        before = copy.deepcopy(point)
        for word in WORDS:
            with self.assertRaises(NoName) as taken:
                is_so((word, terms, 0), point)
            self.assertEqual(taken.exception.name, name)
        with self.assertRaises(NoName) as taken:
            worth((terms, 1, 2), point)
        self.assertEqual(taken.exception.name, name)
        self.assertEqual(point, before)

    def test_the_first_name(self):
        self.assert_lacks(XYZ, {"y": (1, 1), "z": (1, 1)}, "x")

    def test_a_later_name(self):
        self.assert_lacks(XYZ, {"x": (1, 1), "z": (1, 1)}, "y")
        self.assert_lacks(XYZ, {"x": (1, 1), "y": (1, 1)}, "z")

    def test_several_names(self):
        self.assert_lacks(XYZ, {"x": (1, 1)}, "y")
        self.assert_lacks(XYZ, {"y": (1, 1)}, "x")
        self.assert_lacks(XYZ, {}, "x")
        self.assert_lacks(XYZ, {"a": (1, 1), "w": (0, 1)}, "x")

    def test_a_refusal_changes_nothing(self):
        point = {"x": (1, 2)}
        before = worth((X, 0, 1), point)
        self.assert_lacks(XY, point, "y")
        self.assertEqual(worth((X, 0, 1), point), before)


class NothingChangedTest(unittest.TestCase):
    def test_the_point_stays_as_it_was(self):
        point = {"z": (1, 2), "a": (9, 1), "x": (-1, 3), "y": (0, 1)}
        before = list(point.items())
        worth((XYZ, 4, 3), point)
        is_so(("least", XYZ, 0), point)
        is_so(("more", XYZ, 0), point)
        self.assertEqual(list(point.items()), before)

    def test_asked_again(self):
        point = {"x": (1, 2), "y": (1, 3)}
        self.assertEqual(worth((XY, 1, 2), point), worth((XY, 1, 2), point))
        self.assertEqual(contrary(("least", XY, 1)), contrary(("least", XY, 1)))

    def test_a_worth_told_is_not_changed_by_the_point(self):
        point = {"x": (1, 2)}
        told = worth((X, 0, 1), point)
        point["x"] = (3, 1)
        self.assertEqual(told, (1, 2))
        self.assertEqual(worth((X, 0, 1), point), (3, 1))


if __name__ == "__main__":
    unittest.main()
