"""Runs of plans."""

from notekeep.errors import NoName
from notekeep.plans import must_plan
from notekeep.sums import is_so, less, minus, worth

MOST_DEEDS = 300


def run(plan, start, turns, givens):
    must_plan(plan)
    traveller = Traveller(plan[0], start, turns, givens)
    if traveller.meets(plan[1]):
        do_block(traveller, (), plan[2])
    else:
        traveller.stop("unmet", ())
    return traveller.told()


# Whether the end of the block was come to.
def do_block(traveller, place, block):
    for index, statement in enumerate(block):
        if not do_statement(traveller, place + (index,), statement):
            return False
    return True


def do_statement(traveller, place, statement):
    word = statement[0]
    if word == "set":
        return traveller.put(place, statement[1], statement[2]) is not None
    if word == "any":
        return traveller.take(place, statement[1]) is not None
    if word == "note":
        return traveller.note(place, statement[1]) is not None
    if word == "choose":
        return do_one_of(traveller, place, traveller.fork(place), statement[1:])
    if word == "if":
        return do_one_of(traveller, place, traveller.ask(place, statement[1]), statement[2:])
    return do_loop(traveller, place, statement)


def do_one_of(traveller, place, way, blocks):
    if way is None:
        return False
    return do_block(traveller, place + (way,), blocks[way])


def do_loop(traveller, place, statement):
    traveller.enter(place)
    while True:
        way = traveller.head(place, statement[2], statement[3], statement[1])
        if way is None:
            return False
        if way == 1:
            return True
        if not do_block(traveller, place + (0,), statement[4]):
            return False


# Who goes through a plan or through its code. Each deed tells the way on: 0 straight on or to the
# first of two, 1 to the other one; or None, where it isn't done and the journey stops.
class Traveller:
    def __init__(self, names, start, turns, givens):
        for name in names:
            if name not in start:
                raise NoName(name)
        self.point = dict([(name, start[name]) for name in names])
        self.turns = list(turns)
        self.givens = list(givens)
        self.deeds = 0
        self.passed = []
        self.worths = {}
        self.word = "done"
        self.place = ()

    def told(self):
        return (self.word, self.passed, self.place, dict(self.point))

    def stop(self, word, place):
        self.word = word
        self.place = place

    def meets(self, rows):
        return all([is_so(row, self.point) for row in rows])

    def may_do(self, place):
        if self.deeds == MOST_DEEDS:
            self.stop("going", place)
            return False
        self.deeds = self.deeds + 1
        return True

    def put(self, place, name, one):
        if not self.may_do(place):
            return None
        self.point[name] = worth(one, self.point)
        return 0

    def take(self, place, name):
        if not self.may_do(place):
            return None
        if len(self.givens) == 0:
            self.stop("wanting", place)
            return None
        self.point[name] = self.givens.pop(0)
        return 0

    def fork(self, place):
        if not self.may_do(place):
            return None
        if len(self.turns) == 0:
            self.stop("wanting", place)
            return None
        return self.turns.pop(0)

    def ask(self, place, row):
        if not self.may_do(place):
            return None
        return 0 if is_so(row, self.point) else 1

    def note(self, place, rows):
        if not self.may_do(place):
            return None
        return self.passes(place, self.meets(rows), 0)

    def enter(self, place):
        self.worths[place] = None

    def head(self, place, rows, measure, row):
        if not self.may_do(place):
            return None
        inside = is_so(row, self.point)
        good = self.meets(rows)
        if good and measure is not None:
            good = self.measured(place, measure, inside)
        return self.passes(place, good, 0 if inside else 1)

    def measured(self, place, measure, inside):
        now = worth(measure[0], self.point)
        known = self.worths.get(place)
        if known is not None and less(minus(known, (measure[1], 1)), now):
            return False
        if inside:
            self.worths[place] = now
            return now[0] >= 0
        return True

    def passes(self, place, good, way):
        if not good:
            self.stop("broken", place)
            return None
        self.passed.append((place, dict(self.point)))
        return way
