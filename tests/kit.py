"""What several tests draw on: plans put together shortly, many plans, and runs and duties reckoned another way."""

import random
from collections import Counter
from fractions import Fraction
from math import lcm

from notekeep.errors import NoMeasure, NoName, TooGreat
from notekeep.solving import met
from notekeep.texts import read


def total(*names):
    return (tuple((name, 1) for name in names), 0, 1)


def row(*names):
    return ("least", tuple((name, 1) for name in names), 0)


def put(name="x", *names):
    return ("set", name, total(*names))


def note(*rows):
    return ("note", rows)


def choose(first=(), second=()):
    return ("choose", tuple(first), tuple(second))


def branch(first=(), second=(), asked=None):
    return ("if", asked or row("x"), tuple(first), tuple(second))


def loop(block=(), measure=None, asked=None, notes=()):
    return ("while", asked or row("x"), tuple(notes), measure, tuple(block))


def plan_of(*block, names=("x", "y", "z"), rows=()):
    return (names, rows, block)


# By weights of names: terms(x=2, y=-1); least(3, x=1) is 1 x >= 3, more(3, x=1) is 1 x > 3.
def terms(**weights):
    return tuple(sorted((name, weight) for name, weight in weights.items() if weight != 0))


def least(bound, **weights):
    return ("least", terms(**weights), bound)


def more(bound, **weights):
    return ("more", terms(**weights), bound)


def add(name, whole, by=1):
    return ("set", name, (((name, 1),), whole, by))


ALWAYS = least(0)
NEVER = more(0)


def fraction(number):
    number = Fraction(number)
    return (number.numerator, number.denominator)


def point(**values):
    return {name: fraction(value) for name, value in values.items()}


def lines(*some):
    return read("\n".join(some))


def names_of(rows):
    return {name for row in rows for name, weight in row[1]}


def is_met(rows, point):
    for word, terms, bound in rows:
        added = sum((weight * Fraction(*point[name]) for name, weight in terms), Fraction(0))
        if not (added >= bound if word == "least" else added > bound):
            return False
    return True


def are_weights(rows, weights):
    if len(weights) != len(rows) or any(weight < 0 for weight in weights):
        return False
    left = Counter()
    bound = 0
    for row, weight in zip(rows, weights):
        bound += weight * row[2]
        for name, of_name in row[1]:
            left[name] += weight * of_name
    strict = any(row[0] == "more" and weight > 0 for row, weight in zip(rows, weights))
    return not any(left.values()) and (bound > 0 or bound == 0 and strict)


# One plan for each refusal of a plan, with the error's class and its fields.
REFUSED = (
    (plan_of(put("x"), names=("u", "x", "y", "z")), TooGreat, {"number": 4, "most": 3}),
    (plan_of(*[put("x")] * 26), TooGreat, {"number": 26, "most": 24}),
    (plan_of(choose([choose([loop([loop([note(row("q"))])])])])), TooGreat, {"number": 5, "most": 4}),
    (plan_of(choose([branch()]), choose()), TooGreat, {"number": 3, "most": 2}),
    (plan_of(loop([loop([loop()])])), TooGreat, {"number": 3, "most": 2}),
    (plan_of(("any", "x"), ("any", "x")), TooGreat, {"number": 2, "most": 1}),
    (plan_of(note(row("x")), note(row("y"), row("z"))), TooGreat, {"number": 3, "most": 2}),
    (plan_of(rows=(row("x"), row("q"))), NoName, {"name": "q"}),
    (plan_of(loop(notes=(row("x"), row("u", "x")))), NoName, {"name": "u"}),
    (plan_of(put("x"), loop([choose([], [loop()])], (total("x"), 1))), NoMeasure, {"place": (1,)}),
)


class Stopped(Exception):
    pass


class ByHand:
    """A run, told by Python's own fractions, straight from the points on plans and runs."""

    def __init__(self, plan, start, turns, givens):
        self.plan = plan
        self.values = {name: Fraction(*start[name]) for name in plan[0]}
        self.turns = iter(turns)
        self.givens = iter(givens)
        self.deeds = 0
        self.passed = []
        # For each time that a loop is come to from ahead: its place, its measure's worth and fall there
        # (or None), whether its row was so there, and how often its block was then begun.
        self.rounds = []

    def tell(self):
        place = ()
        word = "done"
        try:
            if not all(self.so(one) for one in self.plan[1]):
                raise Stopped("unmet", ())
            self.block((), self.plan[2])
        except Stopped as stopped:
            word, place = stopped.args
        return (word, self.passed, place, self.here())

    def here(self):
        return {name: fraction(value) for name, value in self.values.items()}

    def added(self, some):
        return sum((weight * self.values[name] for name, weight in some), Fraction(0))

    def so(self, one):
        word, some, bound = one
        return self.added(some) >= bound if word == "least" else self.added(some) > bound

    def worth(self, one):
        return (self.added(one[0]) + one[1]) / one[2]

    def block(self, place, block):
        for index, statement in enumerate(block):
            self.statement(place + (index,), *statement)

    def begin(self, place):
        if self.deeds == 300:
            raise Stopped("going", place)
        self.deeds += 1

    def next_of(self, some, place):
        for one in some:
            return one
        raise Stopped("wanting", place)

    def look(self, place, good):
        if not good:
            raise Stopped("broken", place)
        self.passed.append((place, self.here()))

    def statement(self, place, word, *rest):
        if word == "while":
            return self.loop(place, *rest)
        self.begin(place)
        if word == "set":
            self.values[rest[0]] = self.worth(rest[1])
        elif word == "any":
            self.values[rest[0]] = Fraction(*self.next_of(self.givens, place))
        elif word == "note":
            self.look(place, all(self.so(one) for one in rest[0]))
        elif word == "choose":
            turn = self.next_of(self.turns, place)
            self.block(place + (turn,), rest[turn])
        else:
            turn = 0 if self.so(rest[0]) else 1
            self.block(place + (turn,), rest[turn + 1])

    def loop(self, place, asked, notes, measure, block):
        ahead = None
        measured = None if measure is None else (self.worth(measure[0]), measure[1])
        rounds = [place, measured, self.so(asked), 0]
        self.rounds.append(rounds)
        while True:
            self.begin(place)
            good = all(self.so(one) for one in notes)
            if measure is not None:
                now = self.worth(measure[0])
                good = good and not (self.so(asked) and now < 0)
                good = good and (ahead is None or ahead - now >= measure[1])
                ahead = now
            self.look(place, good)
            if not self.so(asked):
                return
            rounds[-1] += 1
            self.block(place + (0,), block)


def told_by_hand(plan, start, turns, givens):
    return ByHand(plan, start, turns, givens).tell()


def rounds_by_hand(plan, start, turns, givens):
    journey = ByHand(plan, start, turns, givens)
    journey.tell()
    return journey.rounds


def chain_of(place, block, after):
    for index in reversed(range(len(block))):
        after = (place + (index,), block[index], after)
    return after


class DutiesByHand:
    """Duties, told by Python's own fractions. What is still to be done on a stretch is a chain, None at its end or
    a tuple (place, statement, the chain behind it); a name's value is a dict from letters to fractions, its whole at
    the empty text."""

    def __init__(self, plan):
        self.plan = plan
        self.found = []

    def tell(self):
        names, rows, block = self.plan
        whole = chain_of((), block, None)
        self.stretch(("start",), rows, None, whole)
        for chain in self.loops(whole, None):
            place, (word, asked, notes, measure, inner), after = chain
            self.stretch(("round", place), notes + (asked,), measure, chain_of(place + (0,), inner, chain))
            self.stretch(("behind", place), notes + (self.against(asked),), None, after)
        return self.found

    def loops(self, chain, end):
        while chain is not end:
            place, statement, after = chain
            if statement[0] == "while":
                yield chain
                yield from self.loops(chain_of(place + (0,), statement[4], chain), chain)
            elif statement[0] in ("choose", "if"):
                for turn in (0, 1):
                    yield from self.loops(chain_of(place + (turn,), statement[turn - 2], after), after)
            chain = after

    def against(self, asked):
        word, some, bound = asked
        turned = tuple((name, -weight) for name, weight in some)
        return ({"least": "more", "more": "least"}[word], turned, -bound)

    def stretch(self, beginning, rows, measure, chain):
        self.beginning = beginning
        own = {name: {name: Fraction(1)} for name in self.plan[0]}
        self.ahead = None
        if measure is not None:
            self.ahead = self.value(measure[0], own)
            self.found.append((beginning, (), beginning[1], "worth", rows, self.row("least", self.ahead, 0)))
        self.go(chain, (), rows, own)

    def value(self, one, values):
        some, whole, by = one
        value = Counter({"": Fraction(whole)})
        for name, weight in some:
            for letter, share in values[name].items():
                value[letter] += weight * share
        return {letter: share / by for letter, share in value.items()}

    def row(self, word, value, bound):
        weights = {letter: weight for letter, weight in value.items() if letter and weight}
        right = Fraction(bound) - value.get("", 0)
        often = lcm(right.denominator, *[weight.denominator for weight in weights.values()])
        return (word, tuple(sorted((letter, int(weight * often)) for letter, weight in weights.items())), int(right * often))

    def put_in(self, one, values):
        return self.row(one[0], self.value((one[1], 0, 1), values), one[2])

    def go(self, chain, way, rows, values):
        if chain is None:
            return
        place, (word, *rest), after = chain
        if word == "set":
            self.go(after, way, rows, {**values, rest[0]: self.value(rest[1], values)})
        elif word == "any":
            self.go(after, way, rows, {**values, rest[0]: {"A": Fraction(1)}})
        elif word == "note":
            self.must_follow(place, way, rows, values, rest[0])
            self.go(after, way, rows + tuple(self.put_in(one, values) for one in rest[0]), values)
        elif word == "while":
            self.must_follow(place, way, rows, values, rest[1])
            if self.beginning == ("round", place) and self.ahead is not None:
                now = self.value(rest[2][0], values)
                fallen = {one: self.ahead.get(one, 0) - now.get(one, 0) for one in {**self.ahead, **now}}
                self.found.append((self.beginning, way, place, "fall", rows, self.row("least", fallen, rest[2][1])))
        else:
            known = ((), ()) if word == "choose" else ((rest[0],), (self.against(rest[0]),))
            for turn in (0, 1):
                learnt = tuple(self.put_in(one, values) for one in known[turn])
                self.go(chain_of(place + (turn,), rest[turn - 2], after), way + (turn,), rows + learnt, values)

    def must_follow(self, place, way, rows, values, some):
        for number, one in enumerate(some):
            self.found.append((self.beginning, way, place, number, rows, self.put_in(one, values)))


def duties_by_hand(plan):
    return DutiesByHand(plan).tell()


def rows_against(duty):
    return duty[4] + (DutiesByHand(None).against(duty[5]),)


# What is told of the rows is looked at here: a point or weights, there are never both.
def is_open(duty):
    rows = rows_against(duty)
    word, answer = met(rows)
    if not (is_met(rows, answer) if word == "point" else are_weights(rows, answer)):
        raise AssertionError((duty, word, answer))
    return word == "point"


# The plan with something else at this index of the loop at the place.
def with_loop_part(plan, place, index, part):
    def changed(block, place):
        statement = list(block[place[0]])
        if len(place) == 1:
            statement[index] = part
        else:
            inner = -1 if statement[0] == "while" else place[1] - 2
            statement[inner] = changed(statement[inner], place[2:])
        return block[:place[0]] + (tuple(statement),) + block[place[0] + 1:]

    return (plan[0], plan[1], changed(plan[2], place))


def with_notes(plan, place, notes):
    return with_loop_part(plan, place, 2, notes)


def with_measure(plan, place, measure):
    return with_loop_part(plan, place, 3, measure)


# Plans of which every run keeps all.
KEPT = (
    lines("plan x"),
    lines("plan x y", "while 1 x > 0", "  any x", "  set y = 1 x", "end"),
    lines("plan x", "given 1 x > 0 and -1 x > 0", "note 0 > 0"),
    lines("plan x", "note 0 >= 0 and 0 > -1", "while 0 > 0", "  keep 0 >= -2", "  fall -1 by 5", "end"),
    lines(
        "plan x", "given 1 x >= 0", "while 1 x > 0", "  keep 1 x > -1", "  fall 1 x by 1", "  set x = 1 x - 1", "end",
        "note -1 x >= 0 and 1 x > -1",
    ),
    lines(
        "plan x y", "given 1 x >= 0", "set y = 0", "while 1 x >= 1", "  keep 1 x >= 0 and 1 y >= 0", "  set x = 1 x - 1",
        "  while 1 y > 5", "    keep 1 x >= 0 and 1 y >= 0", "    fall 1 y by 2", "    set y = 1 y - 2", "  end",
        "  set y = 1 y + 4", "end", "note 1 x + 1 y >= 0",
    ),
    lines(
        "plan x y", "any x", "if 1 x > 0", "  set y = 1 x over 2", "else", "  set y = -1 x + 1", "end", "note 1 y > 0",
        "while 1 x - 1 y >= 1", "  keep 1 y > 0", "  fall 1 x - 1 y over 2 by 1", "  choose", "    set x = 1 x - 2", "  or",
        "    set y = 1 y + 2", "  end", "end", "note -1 x + 1 y > -1",
    ),
    lines(
        "plan a b c", "given 1 a - 1 b >= 3 and 1 c > 0", "choose", "  while 1 a + 1 b >= 6", "    keep 1 a - 1 b >= 3 and 1 c > 0",
        "    fall 1 a + 1 b - 4 over 3 by 1", "    set b = 1 b - 3 c - 2", "    set b = 1 b + 3 c - 1", "  end", "or",
        "  set c = 2 c over 7", "end", "while 1 c >= 8", "  keep 1 a - 1 b >= 3 and 1 c > 0",
        "  fall 1 c by 3", "  set c = 1 c + 1 over 2", "end", "note 1 a - 1 b + 1 c > 3",
    ),
    lines(
        "plan x y z", "if 1 x >= 1", "  set y = 1 x", "else", "  set y = 1", "end", "set z = 10 y",
        "while -1 y + 1 z > 0", "  keep 1 y >= 1", "  fall -1 y + 1 z by 1", "  set z = -1 y + 1 z", "end", "note 1 y - 1 z >= 0",
    ),
)


class Maker:
    """Plans made by chance, from a seed: with bounded=True such that none is refused."""

    def __init__(self, seed, bounded=True):
        self.chance = random.Random(seed)
        self.bounded = bounded

    def number(self):
        if not self.bounded and self.chance.random() < 0.1:
            return self.chance.choice((-1, 1)) * self.chance.randrange(10 ** 19, 10 ** 20)
        return self.chance.choice((-7, -3, -2, -1, -1, 0, 0, 1, 1, 1, 2, 3, 10))

    def terms(self):
        weights = [(name, self.number()) for name in self.names if self.chance.random() < 0.6]
        return tuple((name, weight) for name, weight in weights if weight != 0)

    def sum(self):
        return (self.terms(), self.number(), self.chance.choice((1, 1, 1, 2, 3, 20)))

    def row(self):
        return (self.chance.choice(("least", "more")), self.terms(), self.number())

    def rows(self, fewest, most):
        return tuple(self.row() for _ in range(self.chance.randint(fewest, most)))

    def plan(self):
        letters = "xyz" if self.bounded else "abcdefghijklmnopqrstuvwxyz"
        most = 3 if self.bounded else 7
        self.names = tuple(sorted(self.chance.sample(letters, self.chance.randint(1, most))))
        great = 100 if not self.bounded else 0
        self.left = {"branch": 2 + great, "loop": 2 + great, "any": 1 + great, "noted": 2 + great}
        rows = self.rows(0, 2) if self.chance.random() < 0.4 else ()
        return (self.names, rows, self.block(1, self.chance.randint(0, 4)))

    def block(self, depth, length):
        return tuple(self.statement(depth) for _ in range(length))

    def inner(self, depth):
        deepest = 4 if self.bounded else 6
        return self.block(depth + 1, self.chance.randint(0, 2) if depth < deepest else 0)

    def taken(self, what):
        self.left[what] -= 1
        return self.left[what] >= 0

    def statement(self, depth):
        word = self.chance.choice(("set", "set", "any", "note", "choose", "if", "while", "while"))
        if word == "any" and self.taken("any"):
            return ("any", self.chance.choice(self.names))
        if word == "note" and self.taken("noted"):
            return ("note", self.rows(1, 2 if self.taken("noted") else 1))
        if word == "choose" and self.taken("branch"):
            return ("choose", self.inner(depth), self.inner(depth))
        if word == "if" and self.taken("branch"):
            return ("if", self.row(), self.inner(depth), self.inner(depth))
        if word == "while" and self.taken("loop"):
            return self.loop(depth)
        return ("set", self.chance.choice(self.names), self.sum())

    def loop(self, depth):
        block = self.inner(depth)
        measure = (self.sum(), self.chance.choice((1, 1, 2, 5)))
        if self.chance.random() < 0.5 or (self.bounded and "'while'" in repr(block)):
            measure = None
        notes = self.rows(0, 2) if self.chance.random() < 0.3 else ()
        return ("while", self.row(), notes, measure, block)

    def fraction(self):
        return fraction(Fraction(self.chance.randint(-12, 12), self.chance.choice((1, 1, 1, 2, 3, 7))))

    def start(self, names):
        return {name: self.fraction() for name in names}

    def turns(self):
        return [self.chance.randint(0, 1) for _ in range(self.chance.choice((0, 1, 3, 100, 300)))]

    def givens(self):
        return [self.fraction() for _ in range(self.chance.choice((0, 1, 3, 100, 300)))]
