"""Points 1 to 3, 9 and 25, and the interface of notekeep/greatest.py."""

import copy
import itertools
import unittest
from collections import Counter

from notekeep.greatest import greatest
from notekeep.papers import papers_of
from notekeep.plans import loops_of, statement_at

from kit import (
    KEPT, REFUSED, Maker, duties_by_hand, is_met, is_open, least, lines, more, names_of, rows_against, with_notes,
)

START = ("start",)


def open_duties(plan):
    places = loops_of(plan)
    return (duty for duty in duties_by_hand(plan) if duty[2] in places and duty[3] not in ("worth", "fall") and is_open(duty))


def greatest_by_hand(plan):
    left = []
    while True:
        duty = next(open_duties(plan), None)
        if duty is None:
            return (plan, left)
        notes = list(statement_at(plan, duty[2])[2])
        left.append((duty[2], notes.pop(duty[3]), duty))
        plan = with_notes(plan, duty[2], tuple(notes))


# Of all choices of the loops' notes for which none is open, for each loop the numbers of all notes chosen.
def all_chosen(plan):
    places = loops_of(plan)
    notes = [statement_at(plan, place)[2] for place in places]
    found = [set() for _ in places]
    choices = [[chosen for size in range(len(some) + 1) for chosen in itertools.combinations(range(len(some)), size)] for some in notes]
    for choice in itertools.product(*choices):
        tried = plan
        for place, some, chosen in zip(places, notes, choice):
            tried = with_notes(tried, place, tuple(some[number] for number in chosen))
        if next(open_duties(tried), None) is None:
            for numbers, chosen in zip(found, choice):
                numbers.update(chosen)
    return [tuple(some[number] for number in sorted(numbers)) for some, numbers in zip(notes, found)]


class NoteMaker(Maker):
    """Plans whose loops all have notes, with small numbers, so that many of them hold."""

    def number(self):
        return self.chance.choice((-1, -1, 0, 0, 0, 1, 1, 2))

    def loop(self, depth):
        word, asked, notes, measure, block = Maker.loop(self, depth)
        notes = self.rows(1, 2)
        if self.chance.random() < 0.2:
            notes = notes[:1] * 2
        return (word, asked, notes, measure, block)


class Greatest(unittest.TestCase):
    maxDiff = None

    def look(self, plan):
        told = greatest(plan)
        self.assertIs(type(told), tuple)
        self.assertEqual(len(told), 2)
        stays, left = told
        self.assertEqual((type(stays), type(left)), (tuple, list))
        by_hand = greatest_by_hand(plan)
        self.assertEqual(stays, by_hand[0])
        self.assertEqual([one[:3] for one in left], by_hand[1])
        for one in left:
            self.assertIs(type(one), tuple)
            self.assertEqual(len(one), 4)
            rows = rows_against(one[2])
            self.assertIs(type(one[3]), dict)
            self.assertEqual(set(one[3]), names_of(rows))
            self.assertTrue(is_met(rows, one[3]), one)
        self.assertEqual(greatest(stays), (stays, []))
        return told

    # The text of the plan that stays, and the places, notes and duties left out.
    def expect(self, text, stays, *left):
        told = self.look(lines(*text))
        self.assertEqual(told[0], lines(*stays))
        self.assertEqual([one[:3] for one in told[1]], list(left))


class LeftOutTest(Greatest):
    def test_nothing_to_leave_out(self):
        for plan in KEPT:
            self.assertEqual(greatest(plan), (plan, []))

    def test_plans_without_loops_or_notes_of_loops(self):
        for text in ("plan x", "plan x\nnote 1 x > 0", "plan x\nwhile 1 x > 0\n  fall -1 x by 1\n  note 1 x > 3\nend"):
            plan = lines(text)
            self.assertEqual(self.look(plan), (plan, []))

    def test_one_note_that_the_start_does_not_meet(self):
        head = ("plan x", "given 1 x >= 0", "while 1 x > 0")
        duty = (START, (), (0,), 1, (least(0, x=1),), more(0, x=1))
        self.expect(
            head + ("  keep 1 x >= 0 and 1 x > 0", "  set x = 1 x + 1", "end"), head + ("  keep 1 x >= 0", "  set x = 1 x + 1", "end"),
            ((0,), more(0, x=1), duty),
        )

    def test_one_note_that_a_round_breaks(self):
        head = ("plan x", "set x = 5", "while 1 x > 0")
        known = (least(0, x=1), least(1, x=2), more(0, x=1))
        self.expect(
            head + ("  keep 1 x >= 0 and 2 x >= 1", "  set x = 1 x over 2", "end"),
            head + ("  keep 1 x >= 0", "  set x = 1 x over 2", "end"),
            ((1,), least(1, x=2), (("round", (1,)), (), (1,), 1, known, least(1, x=1))),
        )

    # The numbers in later duties are those of the notes that are still there.
    def test_all_notes_one_by_one(self):
        head = ("plan x", "while 1 x > 0")
        self.expect(
            head + ("  keep 1 x >= 1 and 1 x >= 2", "end"), head + ("end",),
            ((0,), least(1, x=1), (START, (), (0,), 0, (), least(1, x=1))),
            ((0,), least(2, x=1), (START, (), (0,), 0, (), least(2, x=1))),
        )

    # The second note follows only as long as the first one is known.
    def test_a_note_left_out_that_makes_another_one_open(self):
        start = ("plan x y", "given 1 x >= 0 and 1 y >= 1", "while 1 x >= 0")
        block = ("  set x = 1 x + 1 y", "  any y", "end")
        asked = least(0, x=1)
        told = self.look(lines(*start, "  keep 1 y >= 1 and 1 x >= 0", *block))
        self.assertEqual([one[:2] for one in told[1]], [((0,), least(1, y=1)), ((0,), asked)])
        self.assertEqual(told[1][1][2], (("round", (0,)), (), (0,), 0, (asked, asked), least(0, x=1, y=1)))
        self.assertEqual(told[0], lines(*start, *block))

    # The first of the loop's notes is open only where the second one has been left out.
    def test_the_order_told(self):
        text = ("plan x y", "given 1 x >= 0 and 1 y >= 1", "while 1 x >= 0", "  keep 1 x >= 0 and 1 y >= 1")
        block = ("  set x = 1 x + 1 y", "  any y", "end")
        told = self.look(lines(*text, *block))
        self.assertEqual([one[:2] for one in told[1]], [((0,), least(1, y=1)), ((0,), least(0, x=1))])
        self.assertEqual([one[2][3] for one in told[1]], [1, 0])

    def test_the_same_note_twice(self):
        head = ("plan x", "while 1 x > 0")
        duty = (START, (), (0,), 0, (), least(1, x=1))
        self.expect(
            head + ("  keep 1 x >= 1 and 1 x >= 1", "end"), head + ("end",), ((0,), least(1, x=1), duty), ((0,), least(1, x=1), duty),
        )
        text = ("plan x", "given 1 x >= 1", "while 1 x > 0", "  keep 1 x >= 1 and 1 x >= 1", "  set x = 1 x + 1", "end")
        self.expect(text, text)

    def test_two_loops_one_behind_the_other(self):
        text = (
            "plan x y", "given 1 x >= 0", "set y = 0", "while 1 x > 1", "  keep 1 x >= 0 and 1 y >= 1", "  set x = 1 x - 1", "end",
            "while 1 x > 0", "  keep 1 x >= 0 and -1 x >= -1", "  set x = 1 x - 1", "end",
        )
        stays = (
            "plan x y", "given 1 x >= 0", "set y = 0", "while 1 x > 1", "  keep 1 x >= 0", "  set x = 1 x - 1", "end",
            "while 1 x > 0", "  keep -1 x >= -1", "  set x = 1 x - 1", "end",
        )
        known = (least(0, x=1), least(-1, x=-1), more(0, x=1))
        self.expect(
            text, stays, ((1,), least(1, y=1), (START, (), (1,), 1, (least(0, x=1),), least(1))),
            ((2,), least(0, x=1), (("round", (2,)), (), (2,), 0, known, least(1, x=1))),
        )

    # What the outer loop loses the inner one loses, too, and then the loop behind both.
    def test_two_loops_one_in_the_other(self):
        text = (
            "plan x y", "given 1 x >= 0", "while 1 x > 1", "  keep 1 y >= 0 and 1 x >= 0", "  while 1 x > 2", "    keep 1 y >= 0",
            "    set x = 1 x - 1", "  end", "  set x = 1", "end",
        )
        stays = (
            "plan x y", "given 1 x >= 0", "while 1 x > 1", "  keep 1 x >= 0", "  while 1 x > 2", "    set x = 1 x - 1", "  end",
            "  set x = 1", "end",
        )
        self.expect(
            text, stays, ((0,), least(0, y=1), (START, (), (0,), 0, (least(0, x=1),), least(0, y=1))),
            (
                (0, 0, 0), least(0, y=1),
                (("round", (0,)), (), (0, 0, 0), 0, (least(0, x=1), more(1, x=1)), least(0, y=1)),
            ),
        )

    def test_a_loop_within_a_branch(self):
        text = ("plan x", "if 1 x > 0", "else", "  choose", "    while 1 x > 0", "      keep 1 x >= 0 and -1 x >= 0", "    end")
        stays = ("plan x", "if 1 x > 0", "else", "  choose", "    while 1 x > 0", "      keep -1 x >= 0", "    end")
        rest = ("  or", "  end", "end")
        place = (0, 1, 0, 0, 0)
        self.expect(text + rest, stays + rest, (place, least(0, x=1), (START, (1, 0), place, 0, (least(0, x=-1),), least(0, x=1))))

    def test_something_given(self):
        text = ("plan x", "any x", "while 1 x > 0", "  keep 1 x >= 0", "end")
        told = self.look(lines(*text))
        self.assertEqual(told[1][0][:3], ((1,), least(0, x=1), (START, (), (1,), 0, (), least(0, A=1))))
        self.assertEqual(set(told[1][0][3]), {"A"})

    def test_open_duties_of_notes_and_measures(self):
        text = (
            "plan x", "given 1 x >= 0", "note 1 x > 7", "while 1 x > 0", "  keep 1 x >= 0", "  fall -1 x - 1 by 9", "  note 1 x > 8",
            "end",
        )
        plan = lines(*text)
        self.assertEqual(papers_of(plan)[:2], ("open", 0))
        self.assertEqual(self.look(plan), (plan, []))

    # The measure and all else stay as they are; a note behind "note" statements may rest on these.
    def test_what_stays(self):
        text = (
            "plan x y", "given 1 x >= 0", "note 1 y > 7", "while 1 x > 0", "  keep 1 y > 7 and 1 y > 8",
            "  fall 3 x - 1 over 2 by 9", "  choose", "    any x", "  or", "    set x = 1 x over 3", "  end", "end",
        )
        stays = text[:4] + ("  keep 1 y > 7",) + text[5:]
        self.expect(text, stays, ((1,), more(8, y=1), (START, (), (1,), 1, (least(0, x=1), more(7, y=1)), more(8, y=1))))

    def test_numbers_of_20_figures(self):
        big = 98765432109876543210
        text = ("plan x y", f"given {big} x >= {big - 1}", "while 1 x > 0")
        keep = f"  keep {big} x > {big - 2} and {big} x >= {big}"
        end = (f"  set x = {big} x + 1 over {big}", "end")
        known = (least(big - 1, x=big),)
        self.expect(
            text + (keep,) + end, text + (f"  keep {big} x > {big - 2}",) + end,
            ((0,), least(big, x=big), (START, (), (0,), 1, known, least(big, x=big))),
        )


class ManyPlansTest(Greatest):
    def test_all_choices_gone_through(self):
        maker = NoteMaker(51)
        stayed = Counter()
        for _ in range(600):
            plan = maker.plan()
            places = loops_of(plan)
            stays, left = self.look(plan)
            chosen = all_chosen(plan)
            self.assertEqual([statement_at(stays, place)[2] for place in places], chosen)
            stayed[sum(map(len, chosen)), len(left)] += 1
        for counts in ((0, 1), (1, 1), (2, 2), (1, 3), (0, 4), (2, 1), (3, 1)):
            self.assertGreater(stayed[counts], 0, stayed)

    def test_plans_of_chance(self):
        maker = Maker(52)
        for _ in range(600):
            self.look(maker.plan())

    def test_refusals(self):
        for plan, error, fields in REFUSED:
            with self.assertRaises(error) as taken:
                greatest(plan)
            self.assertIs(type(taken.exception), error)
            self.assertEqual(vars(taken.exception), fields)

    def test_nothing_is_changed_and_asked_again(self):
        maker = NoteMaker(53)
        for _ in range(100):
            plan = maker.plan()
            before = copy.deepcopy(plan)
            told = greatest(plan)
            kept = copy.deepcopy(told)
            for one in told[1]:
                one[3].clear()
            told[1].append("more")
            for refused, error, fields in REFUSED[:3]:
                self.assertRaises(error, greatest, refused)
            self.assertEqual(plan, before)
            self.assertEqual(greatest(plan), kept)


if __name__ == "__main__":
    unittest.main()
