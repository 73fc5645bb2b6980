"""Points that meet rows, or weights that show that no point does."""

from notekeep.sums import added_up, less, made


# The names are taken out one by one; without names a row is barred, or each name, the last one first,
# finds a value between what the rows made ahead of its taking out leave free.
def met(rows):
    names = names_in(rows)
    stages = [first_made(rows, names)]
    for index in range(len(names)):
        stages.append(without_name(stages[-1], index))
    for support, weights, sides in stages[-1]:
        if is_barred(rows, weights, sides[-1]):
            return ("weights", weights)
    return ("point", point_through(stages, names))


def shows(rows, weights):
    if len(weights) != len(rows) or any([weight < 0 for weight in weights]):
        return False
    names = names_in(rows)
    sides = (0,) * (len(names) + 1)
    for row, weight in zip(rows, weights):
        sides = put_together(1, sides, weight, sides_of(row, names))
    leaves_none = all([side == 0 for side in sides[:-1]])
    return leaves_none and is_barred(rows, weights, sides[-1])


def names_in(rows):
    found = {}
    for row in rows:
        for term in row[1]:
            found[term[0]] = True
    return sorted(found)


# The weights of all names, in order, and the bound.
def sides_of(row, names):
    weights = dict(row[1])
    return tuple([weights.get(name, 0) for name in names] + [row[2]])


def put_together(often, one, other_often, other):
    return tuple([often * left + other_often * right for left, right in zip(one, other)])


# Whether what the rows add up to, by these weights and without names, with this bound, isn't so.
def is_barred(rows, weights, bound):
    more = any([row[0] == "more" and weight > 0 for row, weight in zip(rows, weights)])
    return bound > 0 or more and bound == 0


# A made row is a tuple (support, weights, sides): which of the first rows are taken (a bit for each),
# how many times each of them is, and the sides of what these add up to.
def first_made(rows, names):
    found = []
    for number, row in enumerate(rows):
        weights = tuple([1 if other == number else 0 for other in range(len(rows))])
        found.append((1 << number, weights, sides_of(row, names)))
    return found


def without_name(stage, index):
    kept = [row for row in stage if row[2][index] == 0]
    from_below = [row for row in stage if row[2][index] > 0]
    from_above = [row for row in stage if row[2][index] < 0]
    for lower in from_below:
        for upper in from_above:
            if is_needed(stage, lower[0] | upper[0]):
                kept.append(joined(lower, upper, index))
    return kept


# A row that two make is a sum of others, and can be left out, where a third one is made of some of the
# same first rows alone. Looked at ahead of the reckoning, this leaves a few dozens of rows at the most,
# no two of them of one support.
def is_needed(stage, support):
    within = [row for row in stage if row[0] | support == support]
    return len(within) == 2


def joined(lower, upper, index):
    often = -upper[2][index]
    other_often = lower[2][index]
    weights = put_together(often, lower[1], other_often, upper[1])
    sides = put_together(often, lower[2], other_often, upper[2])
    return (lower[0] | upper[0], weights, sides)


def point_through(stages, names):
    point = {}
    for index in range(len(names) - 1, -1, -1):
        all_sides = [row[2] for row in stages[index]]
        low = greatest_of([bound_of(sides, names, index, point) for sides in all_sides if sides[index] > 0])
        high = greatest_of([bound_of(sides, names, index, point) for sides in all_sides if sides[index] < 0])
        point[names[index]] = between(low, changed_sign(high))
    return point


# What the name, or with a weight below nought the name with its sign changed, is bounded by from below,
# not brought to lowest terms. Names ahead don't stand in the row, those behind have their values.
def bound_of(sides, names, index, point):
    behind = [(name, side) for name, side in zip(names[index + 1:], sides[index + 1:]) if side != 0]
    added = added_up(behind, point)
    return (sides[-1] * added[1] - added[0], added[1] * abs(sides[index]))


def greatest_of(bounds):
    found = None
    for bound in bounds:
        if found is None or less(found, bound):
            found = bound
    return found


def changed_sign(bound):
    return None if bound is None else (-bound[0], bound[1])


# A value strictly between, where there is one: so it makes no odds whether the bounds may be reached.
# Where both are the same they may, or a row without names would be barred.
def between(low, high):
    if low is None and high is None:
        return (0, 1)
    if high is None:
        return (low[0] // low[1] + 1, 1)
    if low is None:
        return (-(-high[0] // high[1]) - 1, 1)
    if not less(low, high):
        return made(low[0], low[1])
    return short_between(low, high)


# The bottom grows by its square: bounds with long numbers can be very close to one another.
def short_between(low, high):
    top = low[0] // low[1] + 1
    bottom = 1
    while not less((top, bottom), high):
        bottom = max(2, bottom * bottom)
        top = low[0] * bottom // low[1] + 1
    return made(top, bottom)
