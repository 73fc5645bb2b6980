"""Point 3, and the interface of notekeep/errors.py."""

import copy
import pickle
import unittest

from notekeep.errors import KeepError, NoLoop, NoMeasure, NoName, NoText, TooGreat

# Each class, what it is made of, and its fields in that order.
REFUSALS = (
    (NoName, ("q",), ("name",)),
    (TooGreat, (25, 24), ("number", "most")),
    (NoMeasure, ((0, 1, 2),), ("place",)),
    (NoText, (7,), ("line",)),
    (NoLoop, ((),), ("place",)),
)


class UnderTest(unittest.TestCase):
    def test_all_stand_under_keep_error_and_that_under_value_error(self):
        self.assertTrue(issubclass(KeepError, ValueError))
        for refusal, made_of, fields in REFUSALS:
            self.assertTrue(issubclass(refusal, KeepError), refusal)

    def test_none_stands_under_another_one(self):
        for one, made_of, fields in REFUSALS:
            for other, other_made_of, other_fields in REFUSALS:
                self.assertEqual(issubclass(one, other), one is other, (one, other))
            self.assertFalse(issubclass(KeepError, one))

    def test_keep_error_stands_under_no_narrower_class_of_pythons(self):
        self.assertEqual(KeepError.__bases__, (ValueError,))


class MadeTest(unittest.TestCase):
    def test_fields_are_set_when_made(self):
        for refusal, made_of, fields in REFUSALS:
            error = refusal(*made_of)
            for field, value in zip(fields, made_of):
                self.assertEqual(getattr(error, field), value, (refusal, field))

    def test_the_order_of_fields(self):
        error = TooGreat(1, 2)
        self.assertEqual((error.number, error.most), (1, 2))
        error = TooGreat(2, 1)
        self.assertEqual((error.number, error.most), (2, 1))

    def test_fields_are_each_errors_own(self):
        first = NoName("a")
        second = NoName("b")
        self.assertEqual((first.name, second.name), ("a", "b"))

    def test_wrong_counts_of_fields(self):
        for refusal, made_of, fields in REFUSALS:
            with self.assertRaises(TypeError):
                refusal(*made_of[1:])
            with self.assertRaises(TypeError):
                refusal(*(made_of + (1,)))

    def test_keep_error_is_made_of_a_text(self):
        error = KeepError("some words")
        self.assertEqual(str(error), "some words")

    def test_numbers_of_many_figures_are_taken(self):
        long = 10 ** 9999
        self.assertEqual(TooGreat(long, 3).number, long)
        self.assertEqual(NoLoop((long,)).place, (long,))
        self.assertEqual(NoMeasure((0, 0, long)).place, (0, 0, long))
        self.assertEqual(NoText(long).line, long)

    def test_an_error_can_be_copied_and_sent(self):
        for refusal, made_of, fields in REFUSALS:
            error = refusal(*made_of)
            for other in (copy.copy(error), pickle.loads(pickle.dumps(error))):
                self.assertIs(type(other), refusal)
                self.assertEqual(vars(other), vars(error))


class TakenTest(unittest.TestCase):
    def test_each_is_taken_as_itself_as_keep_error_and_as_value_error(self):
        for refusal, made_of, fields in REFUSALS:
            for wide in (refusal, KeepError, ValueError):
                with self.assertRaises(wide) as taken:
                    raise refusal(*made_of)
                self.assertIs(type(taken.exception), refusal)

    def test_keep_error_is_taken_as_value_error_and_as_no_narrower_one(self):
        with self.assertRaises(ValueError):
            raise KeepError("some words")
        for refusal, made_of, fields in REFUSALS:
            self.assertNotIsInstance(KeepError("some words"), refusal)


if __name__ == "__main__":
    unittest.main()
