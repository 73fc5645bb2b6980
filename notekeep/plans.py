"""The places in a plan, and the look through it."""

from notekeep.errors import NoMeasure, NoName, TooGreat

MOST_NAMES = 3
MOST_STATEMENTS = 24
MOST_DEPTH = 4
MOST_BRANCHES = 2
MOST_LOOPS = 2
MOST_GIVEN = 1
MOST_NOTED = 2


def must_plan(plan):
    names = plan[0]
    pairs = laid_out(plan[2])
    must_be_small(names, pairs)
    must_be_among(names, names_of_rows(plan[1]))
    for place, statement in pairs:
        must_be_among(names, names_of_statement(statement))
        must_bear_measure(place, statement)


def places_of(plan):
    return [pair[0] for pair in laid_out(plan[2])]


def statement_at(plan, place):
    statement = plan[2][place[0]]
    for index in range(1, len(place), 2):
        block = blocks_of(statement)[place[index]]
        statement = block[place[index + 1]]
    return statement


def loops_of(plan):
    return [place for place, statement in laid_out(plan[2]) if statement[0] == "while"]


# The block that a statement at the place lies in; a place just behind its last statement will do, too.
def block_around(plan, place):
    if len(place) == 1:
        return plan[2]
    return blocks_of(statement_at(plan, place[:-2]))[place[-2]]


# The plan with this statement instead of the one at the place, and nothing else changed.
def exchanged(plan, place, statement):
    block = with_part(block_around(plan, place), place[-1], statement)
    if len(place) == 1:
        return (plan[0], plan[1], block)
    above = statement_at(plan, place[:-2])
    number = len(above) - len(blocks_of(above)) + place[-2]
    return exchanged(plan, place[:-2], with_part(above, number, block))


def with_part(parts, number, part):
    return parts[:number] + (part,) + parts[number + 1:]


def blocks_of(statement):
    word = statement[0]
    if word == "choose":
        return (statement[1], statement[2])
    if word == "if":
        return (statement[2], statement[3])
    if word == "while":
        return (statement[4],)
    return ()


# Without recursion, since a plan that is still to be refused may be of any depth.
def laid_out(block):
    pairs = []
    waiting = [((index,), statement) for index, statement in enumerate(block)]
    waiting.reverse()
    while len(waiting) > 0:
        pair = waiting.pop()
        pairs.append(pair)
        inner = straight_within(pair[0], pair[1])
        inner.reverse()
        waiting.extend(inner)
    return pairs


def straight_within(place, statement):
    pairs = []
    for number, block in enumerate(blocks_of(statement)):
        for index, inner in enumerate(block):
            pairs.append((place + (number, index), inner))
    return pairs


def must_be_small(names, pairs):
    statements = [pair[1] for pair in pairs]
    must_be_within(len(names), MOST_NAMES)
    must_be_within(len(statements), MOST_STATEMENTS)
    must_be_within(depth_of(pairs), MOST_DEPTH)
    must_be_within(how_many(statements, ("choose", "if")), MOST_BRANCHES)
    must_be_within(how_many(statements, ("while",)), MOST_LOOPS)
    must_be_within(how_many(statements, ("any",)), MOST_GIVEN)
    must_be_within(rows_noted(statements), MOST_NOTED)


def must_be_within(number, most):
    if number > most:
        raise TooGreat(number, most)


def depth_of(pairs):
    # A place has one number for the plan's block, and two more for each block further in.
    return max([(len(pair[0]) + 1) // 2 for pair in pairs], default=0)


def how_many(statements, words):
    return len([statement for statement in statements if statement[0] in words])


def rows_noted(statements):
    return sum([len(statement[1]) for statement in statements if statement[0] == "note"])


def must_be_among(names, found):
    for name in found:
        if name not in names:
            raise NoName(name)


def must_bear_measure(place, statement):
    if statement[0] == "while" and statement[3] is not None:
        must_have_no_loop(place, statement)


def must_have_no_loop(place, loop):
    inner = [pair[1] for pair in laid_out(loop[4])]
    if how_many(inner, ("while",)) > 0:
        raise NoMeasure(place)


# The names of the statement by itself, in the order in which they are looked at.
def names_of_statement(statement):
    word = statement[0]
    if word == "set":
        return [statement[1]] + names_of_terms(statement[2][0])
    if word == "any":
        return [statement[1]]
    if word == "note":
        return names_of_rows(statement[1])
    if word == "if":
        return names_of_terms(statement[1][1])
    if word == "while":
        return names_of_loop(statement)
    return []


def names_of_loop(statement):
    names = names_of_terms(statement[1][1]) + names_of_rows(statement[2])
    measure = statement[3]
    if measure is not None:
        names.extend(names_of_terms(measure[0][0]))
    return names


def names_of_rows(rows):
    names = []
    for row in rows:
        names.extend(names_of_terms(row[1]))
    return names


def names_of_terms(terms):
    return [term[0] for term in terms]
