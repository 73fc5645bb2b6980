"""What must be shown of a plan, so that none of its runs is broken."""

from notekeep.plans import block_around, loops_of, must_plan, statement_at
from notekeep.sums import common_divisor, contrary

# What is given on a stretch. There is one "any" at most, and no stretch comes by it twice.
GIVEN = ((("A", 1),), 0, 1)

FALLEN = ((("ahead", 1), ("now", -1)), 0, 1)


def duties(plan):
    must_plan(plan)
    found = []
    for beginning in beginnings_of(plan):
        found.extend(duties_from(plan, beginning))
    return found


def beginnings_of(plan):
    beginnings = [("start",)]
    for place in loops_of(plan):
        beginnings.append(("round", place))
        beginnings.append(("behind", place))
    return beginnings


# Of two ways the first one is gone to its end while the second one waits.
def duties_from(plan, beginning):
    first = first_stretch(plan, beginning)
    found = worth_duties(plan, first)
    waiting = [first]
    while len(waiting) > 0:
        stretch = waiting.pop()
        place = come_to(plan, stretch.place)
        if place != ():
            statement = statement_at(plan, place)
            found.extend(duties_at(stretch, place, statement))
            onward = stretches_behind(stretch, place, statement)
            onward.reverse()
            waiting.extend(onward)
    return found


# How far a stretch has come: the turns taken, the rows known, for each name the sum that it is of what
# the names had at the beginning and what was given, and the place to go on with.
class Stretch:
    def __init__(self, beginning, way, rows, sums, place):
        self.beginning = beginning
        self.way = way
        self.rows = rows
        self.sums = sums
        self.place = place


def first_stretch(plan, beginning):
    sums = dict([(name, (((name, 1),), 0, 1)) for name in plan[0]])
    if beginning[0] == "start":
        return Stretch(beginning, (), plan[1], sums, (0,))
    place = beginning[1]
    loop = statement_at(plan, place)
    if beginning[0] == "round":
        return Stretch(beginning, (), loop[2] + (loop[1],), sums, place + (0, 0))
    return Stretch(beginning, (), loop[2] + (contrary(loop[1]),), sums, behind(place))


def behind(place):
    return place[:-1] + (place[-1] + 1,)


# The place of the statement to be done: where a block has ended, that of the loop whose block it is, or
# what comes behind the statement that it lies in; () at the plan's end.
def come_to(plan, place):
    while place[-1] == len(block_around(plan, place)):
        above = place[:-2]
        if above == () or statement_at(plan, above)[0] == "while":
            return above
        place = behind(above)
    return place


def stretches_behind(stretch, place, statement):
    word = statement[0]
    if word == "set":
        return [with_sum(stretch, place, statement[1], put_in(statement[2], stretch.sums))]
    if word == "any":
        return [with_sum(stretch, place, statement[1], GIVEN)]
    if word == "note":
        return [with_rows(stretch, stretch.way, statement[1], behind(place))]
    if word == "choose":
        return both_ways(stretch, place, ((), ()))
    if word == "if":
        return both_ways(stretch, place, ((statement[1],), (contrary(statement[1]),)))
    return []


def with_sum(stretch, place, name, one):
    sums = dict(stretch.sums)
    sums[name] = one
    return Stretch(stretch.beginning, stretch.way, stretch.rows, sums, behind(place))


def with_rows(stretch, way, rows, place):
    known = stretch.rows + tuple([row_put_in(row, stretch.sums) for row in rows])
    return Stretch(stretch.beginning, way, known, stretch.sums, place)


def both_ways(stretch, place, learnt):
    return [with_rows(stretch, stretch.way + (turn,), learnt[turn], place + (turn, 0)) for turn in range(2)]


def duties_at(stretch, place, statement):
    if statement[0] == "note":
        return row_duties(stretch, place, statement[1])
    if statement[0] == "while":
        return row_duties(stretch, place, statement[2]) + fall_duties(stretch, place, statement[3])
    return []


def row_duties(stretch, place, rows):
    return [duty(stretch, place, number, row_put_in(row, stretch.sums)) for number, row in enumerate(rows)]


def worth_duties(plan, stretch):
    if stretch.beginning[0] != "round":
        return []
    place = stretch.beginning[1]
    measure = statement_at(plan, place)[3]
    if measure is None:
        return []
    return [duty(stretch, place, "worth", row_of("least", put_in(measure[0], stretch.sums), 0))]


def fall_duties(stretch, place, measure):
    if measure is None or stretch.beginning != ("round", place):
        return []
    # The names are still their own sums at the beginning, so the measure's sum is its worth there.
    now = put_in(measure[0], stretch.sums)
    fallen = put_in(FALLEN, {"ahead": measure[0], "now": now})
    return [duty(stretch, place, "fall", row_of("least", fallen, measure[1]))]


def duty(stretch, place, what, row):
    return (stretch.beginning, stretch.way, place, what, stretch.rows, row)


def row_put_in(row, sums):
    return row_of(row[0], put_in((row[1], 0, 1), sums), row[2])


# The row that the sum, in lowest terms, keeps to the bound: no smaller number than what the sum is
# divided by makes its weights and its whole whole at once.
def row_of(word, one, bound):
    return (word, one[0], bound * one[2] - one[1])


# The sum with each name replaced by its own sum, in lowest terms.
def put_in(one, sums):
    by = one[2]
    for term in one[0]:
        by = by * sums[term[0]][2]
    whole = one[1] * (by // one[2])
    weights = {}
    for name, weight in one[0]:
        share = weight * (by // (one[2] * sums[name][2]))
        whole = whole + share * sums[name][1]
        for letter, inner in sums[name][0]:
            weights[letter] = weights.get(letter, 0) + share * inner
    return in_lowest_terms(weights, whole, by)


def in_lowest_terms(weights, whole, by):
    divisor = common_divisor(abs(whole), by)
    for weight in weights.values():
        divisor = common_divisor(abs(weight), divisor)
    terms = [(letter, weights[letter] // divisor) for letter in sorted(weights) if weights[letter] != 0]
    return (tuple(terms), whole // divisor, by // divisor)
