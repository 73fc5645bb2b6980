"""Fractions, the worth of sums, and rows that are so or not."""

from notekeep.errors import NoName

# Numbers of thousands of figures come in, and their products are longer still. Above LONG bits it
# is quicker to take many of Euclid's steps at once, as far as the first LEADING bits tell them.
LONG = 8192
LEADING = 256


def made(top, bottom):
    divisor = common_divisor(abs(top), abs(bottom))
    if bottom < 0:
        divisor = -divisor
    return (top // divisor, bottom // divisor)


# Where both come in lowest terms, what the sum or product can still be divided by is a divisor of
# numbers that are far shorter than its own top and bottom: in long runs this is what saves the time.
def plus(one, other):
    shared = common_divisor(one[1], other[1])
    left = one[1] // shared
    top = one[0] * (other[1] // shared) + other[0] * left
    divisor = common_divisor(abs(top), shared)
    return (top // divisor, left * (other[1] // divisor))


def minus(one, other):
    return plus(one, (-other[0], other[1]))


def times(one, other):
    across = common_divisor(abs(one[0]), other[1])
    back = common_divisor(abs(other[0]), one[1])
    return ((one[0] // across) * (other[0] // back), (one[1] // back) * (other[1] // across))


def less(one, other):
    return one[0] * other[1] < other[0] * one[1]


# The first parameter isn't called sum, as in the document: that name stays Python's own.
def worth(one, point):
    must_have_names(one[0], point)
    added = (one[1], 1)
    for name, weight in one[0]:
        added = plus(added, times((weight, 1), point[name]))
    return times(added, (1, one[2]))


def is_so(row, point):
    added = added_up(row[1], point)
    bound = row[2] * added[1]
    if row[0] == "least":
        return added[0] >= bound
    return added[0] > bound


def contrary(row):
    terms = tuple([(name, -weight) for name, weight in row[1]])
    word = "more" if row[0] == "least" else "least"
    return (word, terms, -row[2])


# Top and bottom are told as they come, the bottom above nought: to bring them to lowest terms is the
# slow part, and who only compares can do without it.
def added_up(terms, point):
    must_have_names(terms, point)
    top = 0
    bottom = 1
    for name, weight in terms:
        value = point[name]
        top = top * value[1] + weight * value[0] * bottom
        bottom = bottom * value[1]
    return (top, bottom)


def must_have_names(terms, point):
    for term in terms:
        if term[0] not in point:
            raise NoName(term[0])


def common_divisor(one, other):
    greater = max(one, other)
    smaller = min(one, other)
    while smaller.bit_length() > LONG:
        pair = many_steps(greater, smaller)
        greater = pair[0]
        smaller = pair[1]
    while smaller != 0:
        rest = greater % smaller
        greater = smaller
        smaller = rest
    return greater


def many_steps(greater, smaller):
    behind = greater.bit_length() - LEADING
    shares = sure_steps(greater >> behind, smaller >> behind)
    upper = shares[0]
    lower = shares[1]
    if upper[1] == 0:
        return (smaller, greater % smaller)
    return (upper[0] * greater + upper[1] * smaller, lower[0] * greater + lower[1] * smaller)


# Lehmer's way: what the leading bits stand for lies between two bounds, and a step is sure as long
# as both bounds give the same quotient. Told is what each of the two numbers that the steps end
# with is made of: how many times the greater one, how many times the smaller one.
def sure_steps(greater, smaller):
    upper = (1, 0)
    lower = (0, 1)
    while smaller + lower[0] != 0 and smaller + lower[1] != 0:
        quotient = (greater + upper[0]) // (smaller + lower[0])
        if quotient != (greater + upper[1]) // (smaller + lower[1]):
            break
        rest = greater - quotient * smaller
        greater = smaller
        smaller = rest
        left = (upper[0] - quotient * lower[0], upper[1] - quotient * lower[1])
        upper = lower
        lower = left
    return (upper, lower)
