"""Points 1 to 3, 9 and 18 to 21, and the interface of notekeep/duties.py."""

import copy
import unittest

from notekeep.duties import duties
from notekeep.plans import must_plan

from kit import REFUSED, Maker, duties_by_hand, least, lines, more

START = ("start",)
BIG = 98765432109876543210
OTHER_BIG = 12345678901234567891


def around(place):
    return ("round", place)


def behind(place):
    return ("behind", place)


class Duties(unittest.TestCase):
    maxDiff = None

    # What is expected is written out; that the other reckoning tells it too is a look at that one.
    def expect(self, plan, *expected):
        told = duties(plan)
        self.assertEqual(told, list(expected))
        self.assertEqual(duties_by_hand(plan), list(expected))

    # The rows known, and the row that must follow, of the one duty of a plan.
    def expect_row(self, plan, row, *known):
        self.assertEqual([duty[4:] for duty in duties(plan)], [(known, row)])


class NoDutiesTest(Duties):
    def test_without_notes_and_loops(self):
        self.expect(lines("plan x"))
        self.expect(lines("plan x y", "given 1 x >= 0 and 1 y > 0", "set x = 1 y", "any y"))
        self.expect(lines("plan x", "choose", "  set x = 1", "or", "end", "if 1 x > 0", "else", "  any x", "end"))

    def test_loops_without_notes_and_measure(self):
        self.expect(lines("plan x", "while 1 x > 0", "  while 1 x > 1", "    set x = 1 x - 1", "  end", "end"))


class NotesTest(Duties):
    def test_a_note_at_the_start(self):
        self.expect(lines("plan x", "note 1 x >= 0"), (START, (), (0,), 0, (), least(0, x=1)))
        self.expect(
            lines("plan x y", "given 1 x >= 3 and 1 y > 2", "note 2 x > 4"),
            (START, (), (0,), 0, (least(3, x=1), more(2, y=1)), more(4, x=2)),
        )

    def test_both_rows_of_a_note(self):
        first = least(0, x=1)
        second = more(-5, x=-1)
        self.expect(
            lines("plan x", "given 1 x >= 7", "note 1 x >= 0 and -1 x > -5", "while 1 x > 3", "  keep 1 x >= 2", "end"),
            (START, (), (0,), 0, (least(7, x=1),), first),
            (START, (), (0,), 1, (least(7, x=1),), second),
            (START, (), (1,), 0, (least(7, x=1), first, second), least(2, x=1)),
            (around((1,)), (), (1,), 0, (least(2, x=1), more(3, x=1)), least(2, x=1)),
        )

    def test_two_notes(self):
        self.expect(
            lines("plan x", "note 1 x >= 0", "set x = 1 x + 1", "note 1 x >= 1"),
            (START, (), (0,), 0, (), least(0, x=1)),
            (START, (), (2,), 0, (least(0, x=1),), least(0, x=1)),
        )

    def test_the_same_row_twice_is_known_twice(self):
        self.expect(
            lines("plan x", "given 1 x >= 0", "note 1 x >= 0", "note 1 x >= 0"),
            (START, (), (0,), 0, (least(0, x=1),), least(0, x=1)),
            (START, (), (1,), 0, (least(0, x=1), least(0, x=1)), least(0, x=1)),
        )

    def test_what_is_known_stays_as_it_was_put_in(self):
        self.expect(
            lines("plan x", "set x = 1 x + 1", "note 1 x >= 5", "set x = 1 x - 7", "note 1 x >= 0"),
            (START, (), (1,), 0, (), least(4, x=1)),
            (START, (), (3,), 0, (least(4, x=1),), least(6, x=1)),
        )


class BranchesTest(Duties):
    def test_a_note_ahead_of_within_and_behind_a_choose(self):
        note = least(0, x=1)
        self.expect(
            lines("plan x", "note 1 x >= 0", "choose", "  set x = 1 x + 1", "or", "  set x = 2 x", "end", "note 1 x >= 1"),
            (START, (), (0,), 0, (), note),
            (START, (0,), (2,), 0, (note,), least(0, x=1)),
            (START, (1,), (2,), 0, (note,), least(1, x=2)),
        )
        self.expect(
            lines("plan x", "choose", "  note 1 x >= 0", "or", "  note 1 x >= 1", "end"),
            (START, (0,), (0, 0, 0), 0, (), least(0, x=1)),
            (START, (1,), (0, 1, 0), 0, (), least(1, x=1)),
        )
        self.expect(
            lines("plan x", "choose", "or", "  note 1 x >= 1", "end", "note 1 x >= 2"),
            (START, (0,), (1,), 0, (), least(2, x=1)),
            (START, (1,), (0, 1, 0), 0, (), least(1, x=1)),
            (START, (1,), (1,), 0, (least(1, x=1),), least(2, x=1)),
        )

    def test_a_note_ahead_of_within_and_behind_an_if(self):
        self.expect(
            lines("plan x", "note 1 x >= 0", "if 1 x > 3", "  set x = 1 x - 3", "else", "end", "note -1 x >= -3"),
            (START, (), (0,), 0, (), least(0, x=1)),
            (START, (0,), (2,), 0, (least(0, x=1), more(3, x=1)), least(-6, x=-1)),
            (START, (1,), (2,), 0, (least(0, x=1), least(-3, x=-1)), least(-3, x=-1)),
        )
        self.expect(
            lines("plan x", "if 1 x >= 3", "  note 1 x >= 2", "else", "  note 1 x >= 1", "end"),
            (START, (0,), (0, 0, 0), 0, (least(3, x=1),), least(2, x=1)),
            (START, (1,), (0, 1, 0), 0, (more(-3, x=-1),), least(1, x=1)),
        )

    def test_the_row_of_an_if_is_put_in(self):
        self.expect(
            lines("plan x y", "set x = 1 x + 2 y + 1 over 2", "if 1 x > 3", "else", "end", "note 1 y > 0"),
            (START, (0,), (2,), 0, (more(5, x=1, y=2),), more(0, y=1)),
            (START, (1,), (2,), 0, (least(-5, x=-1, y=-2),), more(0, y=1)),
        )

    def test_a_row_that_was_known_is_not_changed_by_a_set(self):
        self.expect(
            lines("plan x", "if 1 x > 3", "  set x = 0", "  note 1 x >= 0", "else", "end"),
            (START, (0,), (0, 0, 1), 0, (more(3, x=1),), least(0)),
        )

    def test_two_branches_one_behind_the_other(self):
        self.expect(
            lines(
                "plan x", "choose", "  set x = 1 x + 1", "or", "  set x = 1 x + 2", "end", "if 1 x > 0", "  set x = 1 x + 4",
                "else", "  set x = 1 x + 8", "end", "note 1 x >= 0",
            ),
            (START, (0, 0), (2,), 0, (more(-1, x=1),), least(-5, x=1)),
            (START, (0, 1), (2,), 0, (least(1, x=-1),), least(-9, x=1)),
            (START, (1, 0), (2,), 0, (more(-2, x=1),), least(-6, x=1)),
            (START, (1, 1), (2,), 0, (least(2, x=-1),), least(-10, x=1)),
        )

    def test_two_branches_one_in_the_other(self):
        self.expect(
            lines(
                "plan x", "if 1 x > 0", "  note 1 x >= 7", "  choose", "    set x = 1", "  or", "    set x = 2", "  end",
                "else", "  set x = 3", "end", "note 1 x >= 0",
            ),
            (START, (0,), (0, 0, 0), 0, (more(0, x=1),), least(7, x=1)),
            (START, (0, 0), (1,), 0, (more(0, x=1), least(7, x=1)), least(-1)),
            (START, (0, 1), (1,), 0, (more(0, x=1), least(7, x=1)), least(-2)),
            (START, (1,), (1,), 0, (least(0, x=-1),), least(-3)),
        )

    def test_a_choose_in_a_second_block(self):
        self.expect(
            lines("plan x", "choose", "or", "  choose", "    set x = 1", "  or", "  end", "  note 1 x > 5", "end", "note 1 x > 6"),
            (START, (0,), (1,), 0, (), more(6, x=1)),
            (START, (1, 0), (0, 1, 1), 0, (), more(4)),
            (START, (1, 0), (1,), 0, (more(4),), more(5)),
            (START, (1, 1), (0, 1, 1), 0, (), more(5, x=1)),
            (START, (1, 1), (1,), 0, (more(5, x=1),), more(6, x=1)),
        )


class PutInTest(Duties):
    def test_a_name_set_by_itself(self):
        self.expect_row(lines("plan x", "set x = 1 x + 3", "note 1 x >= 5"), least(2, x=1))
        self.expect_row(lines("plan x", "set x = -2 x", "note 3 x >= 5"), least(5, x=-6))
        self.expect_row(lines("plan x", "set x = 2 x + 1", "set x = 3 x - 1", "note 1 x > 0"), more(-2, x=6))

    def test_a_name_set_by_others(self):
        self.expect_row(lines("plan x y z", "set x = 1 y - 2 z", "note 1 x + 1 y > 1"), more(1, y=2, z=-2))
        self.expect_row(lines("plan x y", "set x = 1 y", "set y = 1 x + 1", "note 1 x - 1 y >= -1"), least(0))
        self.expect_row(lines("plan x y z", "set z = 1 x", "set x = 1 y", "set y = 1 z", "note 1 x + 2 y >= 0"), least(0, x=2, y=1))

    def test_a_name_set_to_a_whole(self):
        self.expect_row(lines("plan x y", "set x = 4", "note 2 x + 1 y >= 5"), least(-3, y=1))
        self.expect_row(lines("plan x", "set x = 0", "note 1 x >= 0"), least(0))
        self.expect_row(lines("plan x", "set x = 3 over 4", "note 1 x >= 1"), least(1))
        self.expect_row(lines("plan x", "set x = 3 over 4", "note 2 x > 1"), more(-1))

    def test_sums_that_are_divided(self):
        self.expect_row(lines("plan x", "set x = 1 x over 2", "note 1 x >= 5"), least(10, x=1))
        self.expect_row(lines("plan x", "set x = 1 x over 2", "note 2 x >= 5"), least(5, x=1))
        self.expect_row(lines("plan x", "set x = 1 x over 2", "note 4 x >= 5"), least(5, x=2))
        self.expect_row(lines("plan x", "set x = 1 x + 1 over 2", "note 2 x >= 5"), least(4, x=1))
        self.expect_row(lines("plan x", "set x = 1 x + 1 over 2", "note 3 x >= 5"), least(7, x=3))
        self.expect_row(lines("plan x", "set x = 4 x + 2 over 6", "note 1 x >= 1"), least(2, x=2))
        self.expect_row(lines("plan x", "set x = 4 x + 2 over 6", "note 3 x > 1"), more(0, x=2))

    # Only the bound, or only a weight, isn't whole.
    def test_the_least_number_that_makes_all_whole(self):
        self.expect_row(lines("plan x", "set x = 6 x + 1 over 6", "note 1 x >= 0"), least(-1, x=6))
        self.expect_row(lines("plan x", "set x = 6 x + 2 over 6", "note 1 x >= 0"), least(-1, x=3))
        self.expect_row(lines("plan x", "set x = 1 x + 6 over 6", "note 1 x >= 0"), least(-6, x=1))
        self.expect_row(lines("plan x y", "set x = 1 x over 4", "set y = 1 y over 6", "note 1 x + 1 y >= 1"), least(12, x=3, y=2))
        self.expect_row(lines("plan x y", "set x = 1 x over 4", "set y = 1 y over 6", "note 4 x + 3 y >= 1"), least(2, x=2, y=1))
        self.expect_row(lines("plan x", "set x = 1 x over 2", "set x = 1 x + 1 over 3", "note 1 x > 1"), more(4, x=1))
        self.expect_row(lines("plan x", "set x = 1 x over 6", "set x = 2 x", "set x = 3 x", "note 1 x > 1"), more(1, x=1))

    # It is never divided, even where everything has a common divisor.
    def test_whole_rows_stay_as_they_are(self):
        self.expect_row(lines("plan x", "note 2 x >= 4"), least(4, x=2))
        self.expect_row(lines("plan x", "set x = 2 x", "note 2 x >= 4"), least(4, x=4))
        self.expect_row(lines("plan x", "set x = 2 x + 2 over 2", "note 2 x >= 4"), least(2, x=2))

    def test_names_that_go_away(self):
        self.expect_row(lines("plan x y", "set x = 1 x + 1 y", "note 1 x - 1 y >= 3"), least(3, x=1))
        self.expect_row(lines("plan x y", "set x = 1 y + 2", "note 2 x - 2 y > 3"), more(-1))
        self.expect_row(lines("plan x y", "set x = 1 y over 3", "note 3 x - 1 y > 3"), more(3))
        self.expect_row(lines("plan x y", "set x = 2 y + 1 over 6", "note 3 x - 1 y >= 0"), least(-1))
        self.expect_row(lines("plan x", "set x = 0", "set x = 5 x", "note 7 x > -1"), more(-1))

    def test_rows_without_names(self):
        self.expect_row(lines("plan x", "note 0 >= 3"), least(3))
        self.expect_row(lines("plan x", "set x = 1 x over 2", "note 0 > -3"), more(-3))

    def test_something_given(self):
        self.expect_row(lines("plan x", "any x", "note 1 x >= 3"), least(3, A=1))
        self.expect_row(lines("plan x y", "any x", "set y = 1 x + 2 y", "note 1 y >= 3"), least(3, A=1, y=2))
        self.expect_row(lines("plan x y", "any x", "set y = 1 x", "set x = 0", "note 1 x - 2 y > 3"), more(3, A=-2))
        self.expect_row(lines("plan x", "any x", "set x = 1 x over 2", "note 1 x >= 3"), least(6, A=1))
        self.expect_row(lines("plan x", "any x", "set x = 1", "note 1 x >= 3"), least(2))
        self.expect_row(lines("plan a x", "set x = 1 a", "any a", "note 1 a + 1 x > 0"), more(0, A=1, a=1))

    def test_something_given_in_one_block(self):
        self.expect(
            lines("plan x", "choose", "  any x", "or", "end", "note 1 x >= 0"),
            (START, (0,), (1,), 0, (), least(0, A=1)),
            (START, (1,), (1,), 0, (), least(0, x=1)),
        )

    def test_something_given_known_of_by_an_if_and_a_note(self):
        self.expect(
            lines("plan x y", "any y", "if 1 x - 1 y > 2", "  note 2 y >= 1", "  set x = 1 y", "  note 1 x >= 0", "else", "end"),
            (START, (0,), (1, 0, 0), 0, (more(2, A=-1, x=1),), least(1, A=2)),
            (START, (0,), (1, 0, 2), 0, (more(2, A=-1, x=1), least(1, A=2)), least(0, A=1)),
        )


class LoopsTest(Duties):
    def test_each_beginning_with_its_notes_and_row(self):
        notes = (least(0, x=1), more(-9, x=-1))
        self.expect(
            lines(
                "plan x", "given 1 x >= 1", "while 1 x > 3", "  keep 1 x >= 0 and -1 x > -9", "  set x = 1 x - 1", "end",
                "note 1 x >= 0",
            ),
            (START, (), (0,), 0, (least(1, x=1),), notes[0]),
            (START, (), (0,), 1, (least(1, x=1),), notes[1]),
            (around((0,)), (), (0,), 0, notes + (more(3, x=1),), least(1, x=1)),
            (around((0,)), (), (0,), 1, notes + (more(3, x=1),), more(-10, x=-1)),
            (behind((0,)), (), (1,), 0, notes + (least(-3, x=-1),), least(0, x=1)),
        )

    def test_a_loop_without_notes(self):
        self.expect(
            lines("plan x", "given 1 x >= 1", "while 1 x >= 3", "  note 1 x > 2", "end", "note 1 x > 1"),
            (around((0,)), (), (0, 0, 0), 0, (least(3, x=1),), more(2, x=1)),
            (behind((0,)), (), (1,), 0, (more(-3, x=-1),), more(1, x=1)),
        )

    def test_an_empty_block(self):
        self.expect(
            lines("plan x", "while 1 x >= 3", "  keep 1 x >= 0", "end"),
            (START, (), (0,), 0, (), least(0, x=1)),
            (around((0,)), (), (0,), 0, (least(0, x=1), least(3, x=1)), least(0, x=1)),
        )

    def test_a_head_come_to_from_ahead_through_sets_and_branches(self):
        self.expect(
            lines(
                "plan x", "choose", "  set x = 1", "or", "  set x = 1 x + 1", "end", "while 1 x > 0", "  keep 1 x >= 0", "end",
            ),
            (START, (0,), (1,), 0, (), least(-1)),
            (START, (1,), (1,), 0, (), least(-1, x=1)),
            (around((1,)), (), (1,), 0, (least(0, x=1), more(0, x=1)), least(0, x=1)),
        )

    def test_a_head_come_to_from_its_blocks_end_through_a_branch(self):
        known = (least(0, x=1), more(0, x=1))
        self.expect(
            lines(
                "plan x", "while 1 x > 0", "  keep 1 x >= 0", "  if 1 x > 5", "    set x = 1 x - 5", "  else", "    set x = 0",
                "  end", "end",
            ),
            (START, (), (0,), 0, (), least(0, x=1)),
            (around((0,)), (0,), (0,), 0, known + (more(5, x=1),), least(5, x=1)),
            (around((0,)), (1,), (0,), 0, known + (least(-5, x=-1),), least(0)),
        )

    def test_two_loops_one_behind_the_other(self):
        self.expect(
            lines(
                "plan x", "while 1 x > 1", "  keep 1 x >= 1", "  set x = 1 x - 1", "end", "set x = 1 x + 1", "while 1 x > 2",
                "  keep 1 x >= 2", "  set x = 1 x - 2", "end", "note 1 x >= 3",
            ),
            (START, (), (0,), 0, (), least(1, x=1)),
            (around((0,)), (), (0,), 0, (least(1, x=1), more(1, x=1)), least(2, x=1)),
            (behind((0,)), (), (2,), 0, (least(1, x=1), least(-1, x=-1)), least(1, x=1)),
            (around((2,)), (), (2,), 0, (least(2, x=1), more(2, x=1)), least(4, x=1)),
            (behind((2,)), (), (3,), 0, (least(2, x=1), least(-2, x=-1)), least(3, x=1)),
        )

    def test_two_loops_one_in_the_other(self):
        outer = (least(1, x=1), more(1, x=1))
        inner = (least(2, x=1), more(2, x=1))
        self.expect(
            lines(
                "plan x", "set x = 1 x + 1", "while 1 x > 1", "  keep 1 x >= 1", "  set x = 1 x + 2", "  while 1 x > 2",
                "    keep 1 x >= 2", "    set x = 1 x + 3", "  end", "  set x = 1 x + 4", "end", "note 1 x >= 3",
            ),
            (START, (), (1,), 0, (), least(0, x=1)),
            (around((1,)), (), (1, 0, 1), 0, outer, least(0, x=1)),
            (behind((1,)), (), (2,), 0, (least(1, x=1), least(-1, x=-1)), least(3, x=1)),
            (around((1, 0, 1)), (), (1, 0, 1), 0, inner, least(-1, x=1)),
            (behind((1, 0, 1)), (), (1,), 0, (least(2, x=1), least(-2, x=-1)), least(-3, x=1)),
        )

    def test_a_loop_at_the_end_of_anothers_block(self):
        self.expect(
            lines(
                "plan x", "while 1 x > 1", "  keep 1 x >= 1", "  choose", "    while 1 x > 2", "    end", "  or", "  end", "end",
            ),
            (START, (), (0,), 0, (), least(1, x=1)),
            (around((0,)), (1,), (0,), 0, (least(1, x=1), more(1, x=1)), least(1, x=1)),
            (behind((0, 0, 0, 0, 0)), (), (0,), 0, (least(-2, x=-1),), least(1, x=1)),
        )

    # The turns ahead of a beginning aren't on its stretch; from within a block it goes on behind.
    def test_a_loop_within_a_choose(self):
        self.expect(
            lines(
                "plan x", "note 1 x >= 9", "choose", "  while 1 x > 0", "    keep 1 x >= 0", "  end", "or", "  set x = 3", "end",
                "choose", "or", "  note 1 x >= 1", "end",
            ),
            (START, (), (0,), 0, (), least(9, x=1)),
            (START, (0,), (1, 0, 0), 0, (least(9, x=1),), least(0, x=1)),
            (START, (1, 1), (2, 1, 0), 0, (least(9, x=1),), least(-2)),
            (around((1, 0, 0)), (), (1, 0, 0), 0, (least(0, x=1), more(0, x=1)), least(0, x=1)),
            (behind((1, 0, 0)), (1,), (2, 1, 0), 0, (least(0, x=1), least(0, x=-1)), least(1, x=1)),
        )

    def test_loops_in_both_blocks_of_an_if(self):
        self.expect(
            lines(
                "plan x", "if 1 x > 0", "  while 1 x > 1", "    keep 1 x >= 1", "  end", "else", "  while 1 x > 2",
                "    keep 1 x >= 2", "    set x = 7", "  end", "end", "note 1 x >= 3",
            ),
            (START, (0,), (0, 0, 0), 0, (more(0, x=1),), least(1, x=1)),
            (START, (1,), (0, 1, 0), 0, (least(0, x=-1),), least(2, x=1)),
            (around((0, 0, 0)), (), (0, 0, 0), 0, (least(1, x=1), more(1, x=1)), least(1, x=1)),
            (behind((0, 0, 0)), (), (1,), 0, (least(1, x=1), least(-1, x=-1)), least(3, x=1)),
            (around((0, 1, 0)), (), (0, 1, 0), 0, (least(2, x=1), more(2, x=1)), least(-5)),
            (behind((0, 1, 0)), (), (1,), 0, (least(2, x=1), least(-2, x=-1)), least(3, x=1)),
        )

    # What was known ahead of a head, and what the names were there, counts no more behind it.
    def test_nothing_goes_past_a_head(self):
        self.expect(
            lines("plan x y", "given 1 y >= 4", "any x", "set y = 1 x", "while 1 x > 0", "end", "note 1 x + 1 y > 0"),
            (behind((2,)), (), (3,), 0, (least(0, x=-1),), more(0, x=1, y=1)),
        )

    def test_something_given_in_a_round(self):
        self.expect(
            lines("plan x y", "while 1 x > 0", "  keep 1 y >= 0", "  any y", "end"),
            (START, (), (0,), 0, (), least(0, y=1)),
            (around((0,)), (), (0,), 0, (least(0, y=1), more(0, x=1)), least(0, A=1)),
        )

    def test_a_row_without_names(self):
        self.expect(
            lines("plan x", "while 0 >= 0", "  keep 0 > -1", "end", "note 0 > 0"),
            (START, (), (0,), 0, (), more(-1)),
            (around((0,)), (), (0,), 0, (more(-1), least(0)), more(-1)),
            (behind((0,)), (), (1,), 0, (more(-1), more(0)), more(0)),
        )


class MeasuresTest(Duties):
    def test_worth_and_fall(self):
        known = (least(-1, x=1), more(0, x=1))
        self.expect(
            lines("plan x", "while 1 x > 0", "  keep 1 x >= -1", "  fall 3 x + 2 by 3", "  set x = 1 x - 1", "end"),
            (START, (), (0,), 0, (), least(-1, x=1)),
            (around((0,)), (), (0,), "worth", known, least(-2, x=3)),
            (around((0,)), (), (0,), 0, known, least(0, x=1)),
            (around((0,)), (), (0,), "fall", known, least(0)),
        )

    # The worth is what is put in: its numbers' common divisor goes away as far as what it is divided by has it.
    def test_a_sum_that_is_divided(self):
        start = ("plan x y", "while 1 x > 0")
        block = ("  set x = 1 x - 1 over 3", "end")
        known = (more(0, x=1),)
        loop = (around((0,)), (), (0,))
        self.expect(
            lines(*start, "  fall 2 x - 2 y + 2 over 2 by 1", *block),
            loop + ("worth", known, least(-1, x=1, y=-1)),
            loop + ("fall", known, least(2, x=2)),
        )
        self.expect(
            lines(*start, "  fall 2 x - 2 y + 2 over 3 by 1", *block),
            loop + ("worth", known, least(-2, x=2, y=-2)),
            loop + ("fall", known, least(7, x=4)),
        )
        self.expect(
            lines(*start, "  fall 4 x + 2 y + 6 over 4 by 5", *block),
            loop + ("worth", known, least(-3, x=2, y=1)),
            loop + ("fall", known, least(14, x=2)),
        )
        self.expect(
            lines(*start, "  fall 2 x - 2 y + 2 by 1", *block),
            loop + ("worth", known, least(-2, x=2, y=-2)),
            loop + ("fall", known, least(1, x=4)),
        )

    def test_a_sum_without_names(self):
        self.expect(
            lines("plan x", "while 1 x > 0", "  fall 6 over 4 by 2", "end"),
            (around((0,)), (), (0,), "worth", (more(0, x=1),), least(-3)),
            (around((0,)), (), (0,), "fall", (more(0, x=1),), least(2)),
        )

    def test_a_fall_that_is_not_whole(self):
        self.expect(
            lines("plan x y", "while 1 x > 0", "  fall 1 x + 1 y by 1", "  set x = 1 x + 1 y over 2", "end"),
            (around((0,)), (), (0,), "worth", (more(0, x=1),), least(0, x=1, y=1)),
            (around((0,)), (), (0,), "fall", (more(0, x=1),), least(2, x=1, y=-1)),
        )

    def test_a_fall_with_something_given(self):
        self.expect(
            lines("plan x", "while 1 x > 0", "  fall 1 x by 2", "  any x", "end"),
            (around((0,)), (), (0,), "worth", (more(0, x=1),), least(0, x=1)),
            (around((0,)), (), (0,), "fall", (more(0, x=1),), least(2, A=-1, x=1)),
        )

    def test_a_fall_on_each_way(self):
        known = (more(0, x=1),)
        self.expect(
            lines(
                "plan x", "while 1 x > 0", "  fall 1 x by 1", "  choose", "    set x = 1 x - 1", "    note 1 x > 3", "  or",
                "    set x = 1 x - 2", "  end", "end",
            ),
            (around((0,)), (), (0,), "worth", known, least(0, x=1)),
            (around((0,)), (0,), (0, 0, 0, 0, 1), 0, known, more(4, x=1)),
            (around((0,)), (0,), (0,), "fall", known + (more(4, x=1),), least(0)),
            (around((0,)), (1,), (0,), "fall", known, least(-1)),
        )

    def test_a_worth_ahead_of_the_notes_in_the_block(self):
        known = (least(5, x=1), more(0, x=1))
        self.expect(
            lines("plan x", "while 1 x > 0", "  keep 1 x >= 5", "  fall 1 x by 1", "  note 1 x > 7", "end"),
            (START, (), (0,), 0, (), least(5, x=1)),
            (around((0,)), (), (0,), "worth", known, least(0, x=1)),
            (around((0,)), (), (0, 0, 0), 0, known, more(7, x=1)),
            (around((0,)), (), (0,), 0, known + (more(7, x=1),), least(5, x=1)),
            (around((0,)), (), (0,), "fall", known + (more(7, x=1),), least(1)),
        )

    # Come to from elsewhere, a loop with a measure has no duty for its fall.
    def test_no_fall_but_from_its_own_round(self):
        self.expect(
            lines(
                "plan x y", "while 1 x > 0", "  set y = 3", "  while 1 y > 0", "    fall 1 y by 1", "    set y = 1 y - 1", "  end",
                "end",
            ),
            (around((0, 0, 1)), (), (0, 0, 1), "worth", (more(0, y=1),), least(0, y=1)),
            (around((0, 0, 1)), (), (0, 0, 1), "fall", (more(0, y=1),), least(0)),
        )
        self.expect(
            lines(
                "plan x", "while 1 x > 0", "  fall 1 x by 1", "end", "while 1 x > 1", "  keep 1 x > 2", "  fall 1 x by 2", "end",
            ),
            (around((0,)), (), (0,), "worth", (more(0, x=1),), least(0, x=1)),
            (around((0,)), (), (0,), "fall", (more(0, x=1),), least(1)),
            (behind((0,)), (), (1,), 0, (least(0, x=-1),), more(2, x=1)),
            (around((1,)), (), (1,), "worth", (more(2, x=1), more(1, x=1)), least(0, x=1)),
            (around((1,)), (), (1,), 0, (more(2, x=1), more(1, x=1)), more(2, x=1)),
            (around((1,)), (), (1,), "fall", (more(2, x=1), more(1, x=1)), least(2)),
        )


class LongNumbersTest(Duties):
    def test_numbers_of_20_figures(self):
        self.expect(
            lines(
                "plan x y", f"set x = {BIG} x - {OTHER_BIG} y + {BIG} over {OTHER_BIG}", f"note {OTHER_BIG} x > {BIG}",
                f"note -{BIG} x + {BIG} y > -{OTHER_BIG}",
            ),
            (START, (), (1,), 0, (), more(0, x=BIG, y=-OTHER_BIG)),
            (
                START, (), (2,), 0, (more(0, x=BIG, y=-OTHER_BIG),),
                more(BIG * BIG - OTHER_BIG * OTHER_BIG, x=-BIG * BIG, y=2 * BIG * OTHER_BIG),
            ),
        )

    def test_the_longest_stretch(self):
        one = f"  set x = {BIG} x + {OTHER_BIG} y - {BIG} over {OTHER_BIG}"
        other = f"  set y = {OTHER_BIG} x - {BIG} y + 7 over {BIG + 1}"
        plan = lines("plan x y", f"while {BIG} x > {BIG}", f"  fall {BIG} x + 1 y over 3 by {BIG}", *[one, other] * 11, "end")
        told = duties(plan)
        self.assertEqual(told, duties_by_hand(plan))
        self.assertEqual([duty[3] for duty in told], ["worth", "fall"])


class ManyPlansTest(Duties):
    def test_plans_of_chance(self):
        maker = Maker(31)
        count = 0
        for _ in range(4000):
            plan = maker.plan()
            told = duties(plan)
            self.assertEqual(told, duties_by_hand(plan))
            self.assertTrue(all(len(duty[4]) <= 7 for duty in told))
            count += len(told)
        self.assertGreater(count, 6000)

    def test_kinds_told(self):
        maker = Maker(32)
        for _ in range(300):
            told = duties(maker.plan())
            self.assertIs(type(told), list)
            for duty in told:
                self.assertEqual([type(duty), type(duty[0]), type(duty[1]), type(duty[2])], [tuple] * 4)
                self.assertIn(type(duty[3]), (int, str))
                self.assertIs(type(duty[4]), tuple)
                for row in duty[4] + (duty[5],):
                    self.assertEqual([type(part) for part in row], [str, tuple, int])
                    self.assertTrue(all(type(weight) is int and weight != 0 for name, weight in row[1]))
                    self.assertEqual(list(row[1]), sorted(row[1]))

    def test_refusals(self):
        for plan, error, fields in REFUSED:
            with self.assertRaises(error) as taken:
                duties(plan)
            self.assertIs(type(taken.exception), error)
            self.assertEqual(vars(taken.exception), fields)
            with self.assertRaises(error) as other:
                must_plan(plan)
            self.assertEqual(vars(other.exception), fields)

    def test_nothing_is_changed_and_asked_again(self):
        maker = Maker(33)
        for _ in range(100):
            plan = maker.plan()
            before = copy.deepcopy(plan)
            told = duties(plan)
            kept = list(told)
            told.append("more")
            for refused, error, fields in REFUSED[:2]:
                self.assertRaises(error, duties, refused)
            self.assertEqual(plan, before)
            self.assertEqual(duties(plan), kept)


if __name__ == "__main__":
    unittest.main()
