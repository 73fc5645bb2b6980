"""Measures found for loops."""

from notekeep.duties import duties_from
from notekeep.errors import NoLoop
from notekeep.papers import open_at
from notekeep.plans import exchanged, loops_of, must_have_no_loop, must_plan, statement_at


def measure_for(plan, place):
    must_plan(plan)
    if place not in loops_of(plan):
        raise NoLoop(place)
    must_have_no_loop(place, statement_at(plan, place))
    for terms in terms_tried(plan[0]):
        measure = ((terms, 0, 1), 1)
        if is_good(plan, place, measure):
            return measure
    return None


# In the order of the weights' tuples, those of the first name foremost.
def terms_tried(names):
    tried = [()]
    for name in names:
        longer = []
        for terms in tried:
            longer.extend([terms + ((name, -1),), terms, terms + ((name, 1),)])
        tried = longer
    return tried


def is_good(plan, place, measure):
    loop = statement_at(plan, place)
    with_measure = exchanged(plan, place, (loop[0], loop[1], loop[2], measure, loop[4]))
    for duty in duties_from(with_measure, ("round", place)):
        if duty[3] in ("worth", "fall") and open_at(duty) is not None:
            return False
    return True
