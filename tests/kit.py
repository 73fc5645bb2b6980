"""What several tests draw on: plans put together shortly, many plans, and a run reckoned another way."""

import random
from fractions import Fraction


def total(*names):
    return (tuple((name, 1) for name in names), 0, 1)


def row(*names):
    return ("least", tuple((name, 1) for name in names), 0)


def put(name="x", *names):
    return ("set", name, total(*names))


def note(*rows):
    return ("note", rows)


def choose(first=(), second=()):
    return ("choose", tuple(first), tuple(second))


def branch(first=(), second=(), asked=None):
    return ("if", asked or row("x"), tuple(first), tuple(second))


def loop(block=(), measure=None, asked=None, notes=()):
    return ("while", asked or row("x"), tuple(notes), measure, tuple(block))


def plan_of(*block, names=("x", "y", "z"), rows=()):
    return (names, rows, block)


# By weights of names: terms(x=2, y=-1); least(3, x=1) is 1 x >= 3, more(3, x=1) is 1 x > 3.
def terms(**weights):
    return tuple(sorted((name, weight) for name, weight in weights.items() if weight != 0))


def least(bound, **weights):
    return ("least", terms(**weights), bound)


def more(bound, **weights):
    return ("more", terms(**weights), bound)


def add(name, whole, by=1):
    return ("set", name, (((name, 1),), whole, by))


ALWAYS = least(0)
NEVER = more(0)


def fraction(number):
    number = Fraction(number)
    return (number.numerator, number.denominator)


def point(**values):
    return {name: fraction(value) for name, value in values.items()}


class Stopped(Exception):
    pass


class ByHand:
    """A run, told by Python's own fractions, straight from the points on plans and runs."""

    def __init__(self, plan, start, turns, givens):
        self.plan = plan
        self.values = {name: Fraction(*start[name]) for name in plan[0]}
        self.turns = iter(turns)
        self.givens = iter(givens)
        self.deeds = 0
        self.passed = []

    def tell(self):
        place = ()
        word = "done"
        try:
            if not all(self.so(one) for one in self.plan[1]):
                raise Stopped("unmet", ())
            self.block((), self.plan[2])
        except Stopped as stopped:
            word, place = stopped.args
        return (word, self.passed, place, self.here())

    def here(self):
        return {name: fraction(value) for name, value in self.values.items()}

    def added(self, some):
        return sum((weight * self.values[name] for name, weight in some), Fraction(0))

    def so(self, one):
        word, some, bound = one
        return self.added(some) >= bound if word == "least" else self.added(some) > bound

    def worth(self, one):
        return (self.added(one[0]) + one[1]) / one[2]

    def block(self, place, block):
        for index, statement in enumerate(block):
            self.statement(place + (index,), *statement)

    def begin(self, place):
        if self.deeds == 300:
            raise Stopped("going", place)
        self.deeds += 1

    def next_of(self, some, place):
        for one in some:
            return one
        raise Stopped("wanting", place)

    def look(self, place, good):
        if not good:
            raise Stopped("broken", place)
        self.passed.append((place, self.here()))

    def statement(self, place, word, *rest):
        if word == "while":
            return self.loop(place, *rest)
        self.begin(place)
        if word == "set":
            self.values[rest[0]] = self.worth(rest[1])
        elif word == "any":
            self.values[rest[0]] = Fraction(*self.next_of(self.givens, place))
        elif word == "note":
            self.look(place, all(self.so(one) for one in rest[0]))
        elif word == "choose":
            turn = self.next_of(self.turns, place)
            self.block(place + (turn,), rest[turn])
        else:
            turn = 0 if self.so(rest[0]) else 1
            self.block(place + (turn,), rest[turn + 1])

    def loop(self, place, asked, notes, measure, block):
        ahead = None
        while True:
            self.begin(place)
            good = all(self.so(one) for one in notes)
            if measure is not None:
                now = self.worth(measure[0])
                good = good and not (self.so(asked) and now < 0)
                good = good and (ahead is None or ahead - now >= measure[1])
                ahead = now
            self.look(place, good)
            if not self.so(asked):
                return
            self.block(place + (0,), block)


def told_by_hand(plan, start, turns, givens):
    return ByHand(plan, start, turns, givens).tell()


class Maker:
    """Plans made by chance, from a seed: with bounded=True such that none is refused."""

    def __init__(self, seed, bounded=True):
        self.chance = random.Random(seed)
        self.bounded = bounded

    def number(self):
        if not self.bounded and self.chance.random() < 0.1:
            return self.chance.choice((-1, 1)) * self.chance.randrange(10 ** 19, 10 ** 20)
        return self.chance.choice((-7, -3, -2, -1, -1, 0, 0, 1, 1, 1, 2, 3, 10))

    def terms(self):
        weights = [(name, self.number()) for name in self.names if self.chance.random() < 0.6]
        return tuple((name, weight) for name, weight in weights if weight != 0)

    def sum(self):
        return (self.terms(), self.number(), self.chance.choice((1, 1, 1, 2, 3, 20)))

    def row(self):
        return (self.chance.choice(("least", "more")), self.terms(), self.number())

    def rows(self, fewest, most):
        return tuple(self.row() for _ in range(self.chance.randint(fewest, most)))

    def plan(self):
        letters = "xyz" if self.bounded else "abcdefghijklmnopqrstuvwxyz"
        most = 3 if self.bounded else 7
        self.names = tuple(sorted(self.chance.sample(letters, self.chance.randint(1, most))))
        great = 100 if not self.bounded else 0
        self.left = {"branch": 2 + great, "loop": 2 + great, "any": 1 + great, "noted": 2 + great}
        rows = self.rows(0, 2) if self.chance.random() < 0.4 else ()
        return (self.names, rows, self.block(1, self.chance.randint(0, 4)))

    def block(self, depth, length):
        return tuple(self.statement(depth) for _ in range(length))

    def inner(self, depth):
        deepest = 4 if self.bounded else 6
        return self.block(depth + 1, self.chance.randint(0, 2) if depth < deepest else 0)

    def taken(self, what):
        self.left[what] -= 1
        return self.left[what] >= 0

    def statement(self, depth):
        word = self.chance.choice(("set", "set", "any", "note", "choose", "if", "while", "while"))
        if word == "any" and self.taken("any"):
            return ("any", self.chance.choice(self.names))
        if word == "note" and self.taken("noted"):
            return ("note", self.rows(1, 2 if self.taken("noted") else 1))
        if word == "choose" and self.taken("branch"):
            return ("choose", self.inner(depth), self.inner(depth))
        if word == "if" and self.taken("branch"):
            return ("if", self.row(), self.inner(depth), self.inner(depth))
        if word == "while" and self.taken("loop"):
            return self.loop(depth)
        return ("set", self.chance.choice(self.names), self.sum())

    def loop(self, depth):
        block = self.inner(depth)
        measure = (self.sum(), self.chance.choice((1, 1, 2, 5)))
        if self.chance.random() < 0.5 or (self.bounded and "'while'" in repr(block)):
            measure = None
        notes = self.rows(0, 2) if self.chance.random() < 0.3 else ()
        return ("while", self.row(), notes, measure, block)

    def fraction(self):
        return fraction(Fraction(self.chance.randint(-12, 12), self.chance.choice((1, 1, 1, 2, 3, 7))))

    def start(self, names):
        return {name: self.fraction() for name in names}

    def turns(self):
        return [self.chance.randint(0, 1) for _ in range(self.chance.choice((0, 1, 3, 100, 300)))]

    def givens(self):
        return [self.fraction() for _ in range(self.chance.choice((0, 1, 3, 100, 300)))]
