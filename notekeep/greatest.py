"""The greatest notes of a plan's loops."""

from notekeep.duties import duties
from notekeep.papers import open_at
from notekeep.plans import exchanged, statement_at


def greatest(plan):
    left = []
    found = first_open(plan)
    while found is not None:
        duty = found[0]
        place = duty[2]
        number = duty[3]
        loop = statement_at(plan, place)
        left.append((place, loop[2][number], duty, found[1]))
        plan = exchanged(plan, place, without_note(loop, number))
        found = first_open(plan)
    return (plan, left)


# The first open duty about a loop's note, with a point at which it is open, or None.
def first_open(plan):
    for duty in duties(plan):
        if is_about_note_of_loop(plan, duty):
            point = open_at(duty)
            if point is not None:
                return (duty, point)
    return None


def is_about_note_of_loop(plan, duty):
    return statement_at(plan, duty[2])[0] == "while" and duty[3] not in ("worth", "fall")


def without_note(loop, number):
    notes = loop[2][:number] + loop[2][number + 1:]
    return (loop[0], loop[1], notes, loop[3], loop[4])
