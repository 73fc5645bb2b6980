"""Plans shown as texts, and texts read to plans."""

from notekeep.errors import NoText

STEP = "  "
FIGURES = "0123456789"
LETTERS = "abcdefghijklmnopqrstuvwxyz"
SIGNS = {"least": ">=", "more": ">"}
WORDS = {">=": "least", ">": "more"}
MOST_ROWS = 2


def shown(plan):
    lines = [" ".join(["plan"] + list(plan[0]))]
    if len(plan[1]) > 0:
        lines.append("given " + shown_rows(plan[1]))
    # Without recursion, since a plan may be of any depth.
    waiting = [(0, statement) for statement in reversed(plan[2])]
    while len(waiting) > 0:
        pair = waiting.pop()
        if isinstance(pair[1], str):
            lines.append(STEP * pair[0] + pair[1])
        else:
            parts = parts_of(pair[0], pair[1])
            parts.reverse()
            waiting.extend(parts)
    return "\n".join(lines)


# What a statement is shown by, in order: its own lines and the statements of its blocks, each with
# the count of blocks that it lies within.
def parts_of(depth, statement):
    word = statement[0]
    if word == "choose":
        return branch_parts(depth, "choose", statement[1], "or", statement[2])
    if word == "if":
        return branch_parts(depth, "if " + shown_row(statement[1]), statement[2], "else", statement[3])
    if word == "while":
        return loop_parts(depth, statement)
    return [(depth, shown_line(statement))]


def branch_parts(depth, opening, first, between, second):
    parts = [(depth, opening)] + one_deeper(depth, first)
    parts.append((depth, between))
    parts.extend(one_deeper(depth, second))
    parts.append((depth, "end"))
    return parts


def loop_parts(depth, statement):
    heading = []
    if len(statement[2]) > 0:
        heading.append("keep " + shown_rows(statement[2]))
    measure = statement[3]
    if measure is not None:
        heading.append("fall " + shown_sum(measure[0]) + " by " + str(measure[1]))
    parts = [(depth, "while " + shown_row(statement[1]))]
    parts.extend(one_deeper(depth, heading))
    parts.extend(one_deeper(depth, statement[4]))
    parts.append((depth, "end"))
    return parts


def one_deeper(depth, parts):
    return [(depth + 1, part) for part in parts]


def shown_line(statement):
    word = statement[0]
    if word == "set":
        return "set " + statement[1] + " = " + shown_sum(statement[2])
    if word == "any":
        return "any " + statement[1]
    return "note " + shown_rows(statement[1])


def shown_rows(rows):
    return " and ".join([shown_row(row) for row in rows])


def shown_row(row):
    return shown_added(row[1], 0) + " " + SIGNS[row[0]] + " " + str(row[2])


def shown_sum(one):
    text = shown_added(one[0], one[1])
    if one[2] > 1:
        return text + " over " + str(one[2])
    return text


def shown_added(terms, whole):
    parts = [(weight, " " + name) for name, weight in terms]
    if whole != 0 or len(terms) == 0:
        parts.append((whole, ""))
    text = str(parts[0][0]) + parts[0][1]
    for number, name in parts[1:]:
        sign = " + " if number > 0 else " - "
        text = text + sign + str(abs(number)) + name
    return text


# A plan or statement whose end isn't read yet: what stands in its tuple ahead of the blocks, and the
# blocks as far as they are read.
class Opened:
    def __init__(self, parts):
        self.parts = parts
        self.blocks = [[]]

    def closed(self):
        return tuple(self.parts + [tuple(block) for block in self.blocks])


# Every line that may stand where it does leaves a text that can still be brought to a plan's end: so
# the first line that is refused here is the first with which the text is no plan's beginning.
def read(text):
    lines = text.split("\n")
    opened = []
    last = ""
    for number, line in enumerate(lines, start=1):
        last = read_line(opened, last, line, number)
    must(len(opened) == 1, len(lines) + 1)
    return opened[0].closed()


def must(holds, number):
    if not holds:
        raise NoText(number)


# The word of the line is told: some lines may only follow upon some others.
def read_line(opened, last, line, number):
    content = line.lstrip(" ")
    tokens = content.split(" ")
    word = tokens[0]
    must((word == "plan") == (last == ""), number)
    if word == "plan":
        must(line == content, number)
        opened.append(Opened([read_names(tokens[1:], number), ()]))
        return word
    depth = len(opened) - 2 if word in ("or", "else", "end") else len(opened) - 1
    must(line == STEP * depth + content, number)
    if word in ("given", "keep", "fall"):
        read_heading(opened[-1], last, tokens, number)
    elif word in ("choose", "if", "while"):
        opened.append(Opened(read_opening(tokens, number)))
    elif word in ("or", "else", "end"):
        must(len(tokens) == 1, number)
        read_turning(opened, word, number)
    else:
        opened[-1].blocks[-1].append(read_plain(tokens, number))
    return word


def read_names(tokens, number):
    must(len(tokens) > 0 and all([is_name(token) for token in tokens]), number)
    must_be_in_order(tokens, number)
    return tuple(tokens)


def read_heading(inner, last, tokens, number):
    word = tokens[0]
    if word == "given":
        must(last == "plan", number)
        inner.parts[1] = read_rows(tokens[1:], number)
    elif word == "keep":
        must(last == "while", number)
        inner.parts[2] = read_rows(tokens[1:], number)
    else:
        must(last in ("while", "keep"), number)
        inner.parts[3] = read_measure(tokens[1:], number)


def read_opening(tokens, number):
    word = tokens[0]
    if word == "choose":
        must(len(tokens) == 1, number)
        return [word]
    row = read_row(tokens[1:], number)
    if word == "if":
        return [word, row]
    return [word, row, (), None]


def read_turning(opened, word, number):
    inner = opened[-1]
    kind = inner.parts[0]
    count = len(inner.blocks)
    if word == "end":
        must(kind == "while" or kind in ("choose", "if") and count == 2, number)
        opened.pop()
        opened[-1].blocks[-1].append(inner.closed())
    else:
        must(kind == ("choose" if word == "or" else "if") and count == 1, number)
        inner.blocks.append([])


def read_plain(tokens, number):
    word = tokens[0]
    if word == "note":
        return (word, read_rows(tokens[1:], number))
    must(word in ("set", "any") and len(tokens) > 1 and is_name(tokens[1]), number)
    if word == "any":
        must(len(tokens) == 2, number)
        return (word, tokens[1])
    must(len(tokens) > 3 and tokens[2] == "=", number)
    return (word, tokens[1], read_sum(tokens[3:], number))


def read_measure(tokens, number):
    must(len(tokens) > 2 and tokens[-2] == "by", number)
    fall = read_whole(tokens[-1], number)
    must(fall > 0, number)
    return (read_sum(tokens[:-2], number), fall)


def read_rows(tokens, number):
    parts = [[]]
    for token in tokens:
        if token == "and":
            parts.append([])
        else:
            parts[-1].append(token)
    must(len(parts) <= MOST_ROWS, number)
    return tuple([read_row(part, number) for part in parts])


def read_row(tokens, number):
    must(len(tokens) > 2 and tokens[-2] in WORDS, number)
    added = read_added(tokens[:-2], number)
    must(added[1] == 0, number)
    return (WORDS[tokens[-2]], added[0], read_whole(tokens[-1], number))


def read_sum(tokens, number):
    if len(tokens) < 3 or tokens[-2] != "over":
        return read_added(tokens, number) + (1,)
    by = read_whole(tokens[-1], number)
    must(by > 1, number)
    return read_added(tokens[:-2], number) + (by,)


# The terms and the whole. With a sign ahead of the first figures too, three tokens are a term, and
# two at the end the whole.
def read_added(tokens, number):
    if tokens == ["0"]:
        return ((), 0)
    signed = ["+"] + tokens
    if tokens[0].startswith("-"):
        signed = ["-", tokens[0][1:]] + tokens[1:]
    behind = len(signed) // 3 * 3
    terms = [read_term(signed[at:at + 3], number) for at in range(0, behind, 3)]
    must_be_in_order([term[0] for term in terms], number)
    if len(signed) == behind:
        return (tuple(terms), 0)
    must(len(signed) == behind + 2, number)
    return (tuple(terms), read_weight(signed[behind:], number))


def read_term(tokens, number):
    must(is_name(tokens[2]), number)
    return (tokens[2], read_weight(tokens, number))


def read_weight(tokens, number):
    must(tokens[0] in ("+", "-") and is_above_nought(tokens[1]), number)
    weight = int(tokens[1])
    return weight if tokens[0] == "+" else -weight


def read_whole(token, number):
    if token == "0":
        return 0
    figures = token[1:] if token.startswith("-") else token
    must(is_above_nought(figures), number)
    return int(token)


def is_above_nought(token):
    return token != "" and token[0] != "0" and all([sign in FIGURES for sign in token])


def is_name(token):
    return len(token) == 1 and token in LETTERS


def must_be_in_order(names, number):
    must(names == sorted(set(names)), number)
