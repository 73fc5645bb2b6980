"""Points 1 to 3 and 10 to 12, and the interface of notekeep/texts.py."""

import copy
import random
import re
import unittest

from notekeep.errors import KeepError, NoText
from notekeep.plans import must_plan
from notekeep.texts import read, shown

from kit import ALWAYS, Maker, add, branch, choose, least, loop, more, note, plan_of, put, terms, total

TWENTY = 98765432109876543210

# Sums, and how they are shown.
SUMS = (
    (((), 0, 1), "0"),
    (((), 7, 1), "7"),
    (((), -7, 1), "-7"),
    (((), 0, 2), "0 over 2"),
    (((), -1, 3), "-1 over 3"),
    ((terms(x=1), 0, 1), "1 x"),
    ((terms(x=-1), 0, 1), "-1 x"),
    ((terms(x=-2), 5, 1), "-2 x + 5"),
    ((terms(x=2), -5, 1), "2 x - 5"),
    ((terms(x=-1), -1, 1), "-1 x - 1"),
    ((terms(x=1, y=1), 0, 1), "1 x + 1 y"),
    ((terms(x=1, y=-1), 0, 1), "1 x - 1 y"),
    ((terms(x=-1, y=1), 0, 1), "-1 x + 1 y"),
    ((terms(x=-1, y=-1), 0, 1), "-1 x - 1 y"),
    ((terms(x=2, y=-3), 1, 2), "2 x - 3 y + 1 over 2"),
    ((terms(a=1, m=-10, z=100), -1000, 10), "1 a - 10 m + 100 z - 1000 over 10"),
    ((terms(x=3), 0, 10), "3 x over 10"),
    ((terms(x=TWENTY, y=-TWENTY), -TWENTY, TWENTY), f"{TWENTY} x - {TWENTY} y - {TWENTY} over {TWENTY}"),
    ((terms(x=-TWENTY), TWENTY, 1), f"-{TWENTY} x + {TWENTY}"),
)

# Rows, and how they are shown.
ROWS = (
    (least(0), "0 >= 0"),
    (more(0), "0 > 0"),
    (least(-3), "0 >= -3"),
    (more(12), "0 > 12"),
    (least(-3, x=1, y=-1), "1 x - 1 y >= -3"),
    (more(4, x=-1), "-1 x > 4"),
    (more(-4, x=-2, y=5, z=-1), "-2 x + 5 y - 1 z > -4"),
    (least(TWENTY, x=-TWENTY, z=TWENTY), f"-{TWENTY} x + {TWENTY} z >= {TWENTY}"),
    (more(-TWENTY, q=1), f"1 q > -{TWENTY}"),
)

X = total("x")
ONE = least(1, x=1)
TWO = more(-2, y=-1)

# Plans, and their lines.
PLANS = (
    (plan_of(names=("a",)), ["plan a"]),
    (plan_of(names=tuple("abcdefghijklmnopqrstuvwxyz")), ["plan a b c d e f g h i j k l m n o p q r s t u v w x y z"]),
    (plan_of(rows=(ONE,)), ["plan x y z", "given 1 x >= 1"]),
    (plan_of(put("x"), rows=(ONE, TWO)), ["plan x y z", "given 1 x >= 1 and -1 y > -2", "set x = 0"]),
    (
        plan_of(put("x", "x", "y"), ("any", "y"), note(ONE), note(ONE, TWO)),
        ["plan x y z", "set x = 1 x + 1 y", "any y", "note 1 x >= 1", "note 1 x >= 1 and -1 y > -2"],
    ),
    (plan_of(choose()), ["plan x y z", "choose", "or", "end"]),
    (plan_of(branch(asked=ONE)), ["plan x y z", "if 1 x >= 1", "else", "end"]),
    (plan_of(loop(asked=TWO)), ["plan x y z", "while -1 y > -2", "end"]),
    (plan_of(loop(asked=TWO, notes=(ONE,))), ["plan x y z", "while -1 y > -2", "  keep 1 x >= 1", "end"]),
    (plan_of(loop(asked=TWO, measure=(X, 3))), ["plan x y z", "while -1 y > -2", "  fall 1 x by 3", "end"]),
    (
        plan_of(loop([put("x")], ((terms(x=1), 1, 2), TWENTY), ALWAYS, (TWO, ONE))),
        [
            "plan x y z", "while 0 >= 0", "  keep -1 y > -2 and 1 x >= 1", f"  fall 1 x + 1 over 2 by {TWENTY}",
            "  set x = 0", "end",
        ],
    ),
    (
        plan_of(choose([("any", "x")], [("any", "y"), ("any", "z")]), ("any", "x")),
        ["plan x y z", "choose", "  any x", "or", "  any y", "  any z", "end", "any x"],
    ),
    (
        plan_of(branch([], [("any", "y")], ONE), branch([("any", "y")], [], ONE)),
        ["plan x y z", "if 1 x >= 1", "else", "  any y", "end", "if 1 x >= 1", "  any y", "else", "end"],
    ),
    (
        plan_of(choose([choose([choose()], [])], [branch([loop(asked=ONE)], [choose()], TWO)])),
        [
            "plan x y z", "choose", "  choose", "    choose", "    or", "    end", "  or", "  end", "or",
            "  if -1 y > -2", "    while 1 x >= 1", "    end", "  else", "    choose", "    or", "    end", "  end", "end",
        ],
    ),
    (
        plan_of(loop([loop([loop([], (X, 1), TWO, (ONE,)), ("any", "x")], None, TWO, (ONE,)), ("any", "x")], (X, 2), ONE)),
        [
            "plan x y z", "while 1 x >= 1", "  fall 1 x by 2", "  while -1 y > -2", "    keep 1 x >= 1",
            "    while -1 y > -2", "      keep 1 x >= 1", "      fall 1 x by 1", "    end", "    any x", "  end",
            "  any x", "end",
        ],
    ),
)


def plans_of_chance():
    return [Maker(seed, bounded).plan() for seed in range(150) for bounded in (True, False)]


def all_plans():
    sums = [plan_of(("set", "x", one), loop([], (one, 4))) for one, text in SUMS]
    rows = [plan_of(branch(asked=one), note(one), loop(asked=one, notes=(one, one)), rows=(one,)) for one, text in ROWS]
    return [plan for plan, lines in PLANS] + sums + rows + plans_of_chance()


class ShownTest(unittest.TestCase):
    def test_sums(self):
        for one, text in SUMS:
            self.assertEqual(shown(plan_of(("set", "x", one))), "plan x y z\nset x = " + text)
            self.assertEqual(shown(plan_of(("set", "q", one))), "plan x y z\nset q = " + text)
            loops = plan_of(loop([], (one, 12), ALWAYS))
            self.assertEqual(shown(loops), "plan x y z\nwhile 0 >= 0\n  fall " + text + " by 12\nend")

    def test_rows(self):
        for one, text in ROWS:
            self.assertEqual(shown(plan_of(note(one))), "plan x y z\nnote " + text)
            self.assertEqual(shown(plan_of(rows=(one,))), "plan x y z\ngiven " + text)
            self.assertEqual(shown(plan_of(branch(asked=one))), "plan x y z\nif " + text + "\nelse\nend")
            kept = plan_of(loop(asked=one, notes=(one,)))
            self.assertEqual(shown(kept), "plan x y z\nwhile " + text + "\n  keep " + text + "\nend")

    def test_pairs_of_rows(self):
        for one, text in ROWS:
            for other, other_text in ROWS:
                self.assertEqual(shown(plan_of(note(one, other))), f"plan x y z\nnote {text} and {other_text}")

    def test_plans(self):
        for plan, lines in PLANS:
            self.assertEqual(shown(plan), "\n".join(lines))

    def test_plans_that_would_be_refused(self):
        plan = plan_of(*[put("q", "r")] * 30, loop([loop([], (X, 1), ALWAYS)], (X, 1), ALWAYS), names=tuple("abcde"))
        self.assertRaises(KeepError, must_plan, plan)
        wanted = ["plan a b c d e"] + ["set q = 1 r"] * 30
        wanted += ["while 0 >= 0", "  fall 1 x by 1", "  while 0 >= 0", "    fall 1 x by 1", "  end", "end"]
        self.assertEqual(shown(plan), "\n".join(wanted))

    def test_a_plan_of_great_depth(self):
        statement = ("any", "x")
        for _ in range(400):
            statement = choose([], [loop([branch([statement], [], ONE)], None, ONE)])
        lines = shown(plan_of(statement)).split("\n")
        self.assertEqual(len(lines), 2 + 400 * 8)
        self.assertIn("  " * 1200 + "any x", lines)
        self.assertEqual(lines[-1], "end")

    def test_a_text_is_told(self):
        for plan in all_plans():
            self.assertIs(type(shown(plan)), str)
            self.assertRegex(shown(plan), r"\A[ -~\n]*[^ \n]\Z")

    def test_nothing_is_changed(self):
        for plan in all_plans():
            before = copy.deepcopy(plan)
            self.assertEqual(shown(plan), shown(plan))
            self.assertEqual(plan, before)


# A line's own form once more, by patterns; the order of names is looked at apart.
FIGURES = "[1-9][0-9]*"
WHOLE = f"(?:0|-?{FIGURES})"
TERMS = f"-?{FIGURES} [a-z](?: [+-] {FIGURES} [a-z])*"
SUM = f"(?:{TERMS}(?: [+-] {FIGURES})?|{WHOLE})(?: over (?:[2-9]|[1-9][0-9]+))?"
ROW = f"(?:{TERMS}|0) >=? {WHOLE}"
SOME = f"{ROW}(?: and {ROW})?"
FORMS = {
    "plan": "plan(?: [a-z])+", "given": f"given {SOME}", "keep": f"keep {SOME}", "fall": f"fall {SUM} by {FIGURES}",
    "set": f"set [a-z] = {SUM}", "any": "any [a-z]", "note": f"note {SOME}", "choose": "choose", "or": "or",
    "if": f"if {ROW}", "else": "else", "while": f"while {ROW}", "end": "end",
}
BEHIND = {"given": ("plan",), "keep": ("while",), "fall": ("while", "keep")}


def in_order(line):
    lists = [line.split(" ")[1:]] if line.startswith("plan") else []
    for part in re.split(" (?:and|=|over|by) ", line):
        lists.append(re.findall("[0-9] ([a-z])(?= |$)", part))
    return all(names == sorted(set(names)) for names in lists)


def first_wrong(text):
    """The number that the refusal must have, or None, by patterns and a list of what is open."""
    still_open = []
    last = None
    lines = text.split("\n")
    for number, line in enumerate(lines, start=1):
        content = line.lstrip(" ")
        word = content.split(" ")[0]
        if word not in FORMS or not re.fullmatch(FORMS[word], content) or not in_order(content):
            return number
        if (word == "plan") != (last is None) or last not in BEHIND.get(word, (last,)):
            return number
        if word in ("or", "else", "end"):
            wanted = {"or": ("choose",), "else": ("if",), "end": ("or", "else", "while")}[word]
            if not still_open or still_open.pop() not in wanted:
                return number
        if line != "  " * len(still_open) + content:
            return number
        if word in ("choose", "if", "while", "or", "else"):
            still_open.append(word)
        last = word
    return len(lines) + 1 if still_open else None


class Reads(unittest.TestCase):
    def assert_refused(self, text, line):
        with self.assertRaises(NoText, msg=repr(text)) as taken:
            read(text)
        self.assertEqual(taken.exception.line, line, text)
        self.assertIs(type(taken.exception.line), int)

    def assert_as_by_patterns(self, text):
        wrong = first_wrong(text)
        if wrong is None:
            self.assertEqual(shown(read(text)), text)
        else:
            self.assert_refused(text, wrong)


class ReadTest(Reads):
    def test_each_plan_shown_and_read(self):
        for plan in all_plans():
            self.assertEqual(read(shown(plan)), plan)

    def test_each_text_read_and_shown(self):
        for plan, lines in PLANS:
            text = "\n".join(lines)
            self.assertEqual(read(text), plan)
            self.assertEqual(shown(read(text)), text)

    def test_kinds_told(self):
        def look(part):
            self.assertIn(type(part), (tuple, str, int, type(None)))
            if type(part) is tuple:
                for inner in part:
                    look(inner)

        for plan in all_plans():
            look(read(shown(plan)))

    def test_plans_that_would_be_refused(self):
        strange = (
            plan_of(*[put("q", "r")] * 30, names=tuple("abcde")),
            plan_of(("any", "x"), ("any", "x"), *[note(ONE, TWO)] * 3, names=("x",)),
            plan_of(*[choose()] * 4, *[loop()] * 4),
            plan_of(choose([choose([choose([choose([choose([("any", "q")])])])])])),
            plan_of(loop([loop([], (X, 1))], (X, 1))),
        )
        for plan in strange:
            self.assertRaises(KeepError, must_plan, plan)
            self.assertEqual(read(shown(plan)), plan)

    def test_a_long_and_a_deep_text(self):
        long = plan_of(*[("set", "x", (terms(a=1, b=-1), TWENTY, 2))] * 200)
        self.assertLess(len(shown(long)), 10001)
        self.assertEqual(read(shown(long)), long)
        deep = add("x", 1)
        for _ in range(60):
            deep = loop([deep], None, ALWAYS)
        self.assertLess(len(shown(plan_of(deep))), 10001)
        self.assertEqual(read(shown(plan_of(deep))), plan_of(deep))
        opened = "\n".join(["plan x"] + ["  " * depth + "choose" for depth in range(95)])
        self.assertLess(len(opened), 10001)
        self.assert_refused(opened, 97)

    def test_asked_again(self):
        text = "\n".join(PLANS[-1][1])
        self.assertEqual(read(text), read(text))
        for _ in range(2):
            self.assert_refused(text + " ", len(PLANS[-1][1]))
            self.assertEqual(read(text), PLANS[-1][0])


class BeginningsTest(Reads):
    def test_the_first_lines_alone(self):
        for plan in all_plans():
            lines = shown(plan).split("\n")
            depth = 0
            for count, line in enumerate(lines, start=1):
                word = line.split()[0]
                depth += (word in ("choose", "if", "while")) - (word == "end")
                text = "\n".join(lines[:count])
                if depth == 0:
                    self.assertEqual(shown(read(text)), text)
                else:
                    self.assert_refused(text, count + 1)

    def test_texts_that_want_their_end(self):
        self.assert_refused("plan x\nchoose", 3)
        self.assert_refused("plan x\nchoose\nor", 4)
        self.assert_refused("plan x\nchoose\n  any x\nor\n  any x", 6)
        self.assert_refused("plan x\nif 0 >= 0", 3)
        self.assert_refused("plan x\nif 0 >= 0\nelse", 4)
        self.assert_refused("plan x\nwhile 0 >= 0", 3)
        self.assert_refused("plan x\nwhile 0 >= 0\n  keep 0 >= 0\n  fall 1 x by 1", 5)
        self.assert_refused("plan x\nwhile 0 >= 0\n  while 0 >= 0\n  end", 5)

    def test_the_empty_text(self):
        self.assert_refused("", 1)
        self.assert_refused("\n", 1)
        self.assert_refused(" ", 1)
        self.assert_refused("\nplan x", 1)

    def test_an_empty_line(self):
        for plan in all_plans()[:80]:
            lines = shown(plan).split("\n")
            for at in range(len(lines) + 1):
                self.assert_refused("\n".join(lines[:at] + [""] + lines[at:]), at + 1)
                self.assert_refused("\n".join(lines[:at] + ["  "] + lines[at:]), at + 1)

    def test_lines_behind_the_plans_end(self):
        for plan in all_plans()[:80]:
            text = shown(plan)
            count = len(text.split("\n"))
            for line in ("end", "or", "else", "  any x", "plan x", " ", "end end", "any"):
                self.assert_refused(text + "\n" + line, count + 1)
            self.assertEqual(read(text + "\nany x"), plan[:2] + (plan[2] + (("any", "x"),),))

    def test_the_first_of_several_wrong_lines(self):
        self.assert_refused("plan x\nany x\nany\nend\nplan", 3)
        self.assert_refused("plan x\nwhile 0 >= 0\n  any x\nor\n   any x", 4)


# Lines of the plan's own block that are no such lines, by their sorts; each stands behind "plan x y".
WRONG = """
set|set |set x|set x =|set x = |set x 1|set x == 1|set X = 1|set xy = 1|set 1 = 1|set = 1|set x =  1|set  x = 1
set x = 1 |set x = 1  x|set x = 1x|set x = x|set x = -x|set x = 1 x |set x = 1 x 1|set x = 1 x y|set x = x 1
set x = 00|set x = 01|set x = 007 x|set x = -0|set x = -0 x|set x = +1|set x = +1 x|set x = + 1|set x = - 1
set x = - 1 x|set x = --1|set x = 0 x|set x = 1 x + 0|set x = 1 x - 0|set x = 1 x + 0 y|set x = 1 x - 0 y
set x = 0 + 1|set x = 0 + 1 x|set x = 1 + 1|set x = 1 + 1 x|set x = 1 x + 1 + 1|set x = 1 x + 1 + 1 y
set x = 1 x + -1|set x = 1 x - -1 y|set x = 1 x -1|set x = 1 x +1|set x = 1 x + 1y|set x = 1 x +|set x = 1 x + y
set x = 1 y + 1 x|set x = 1 x + 1 x|set x = 1 x - 1 x|set x = 1 x + 1 z + 1 y|set x = 1 x + 01 y|set x = 1 x + 01
set x = 1 x over|set x = 1 x over |set x = 1 x over 1|set x = 1 x over 0|set x = 1 x over -2|set x = 1 x over +2
set x = 1 x over 02|set x = 1 x over 2 over 2|set x = 1 x over 2 + 1|set x = over 2|set x = 1 x  over 2
set x = 1 x over  2|set x = 1 x over 2 |set x = 1 x over y|set x = 1 X|set x = 1 xy|set x = 1.5|set x = 1 x * 2
set x = 1 x by 2|set x = 1 x >= 2|set x = 1 x and 1 y|set x = 1_000|set x = 1,0|set x = 1 x + 1 Y|set x = 1 x = 1
any|any |any 1|any X|any xy|any x |any  x|any x y|anyx|Any x|any x = 1|any -x
note|note |note 1 x|note 1 x >=|note 1 x >= |note >= 1|note 1 x 1|note 1 x = 1|note 1 x => 1|note 1 x < 1|note 1 x <= 1
note 1 x >= 01|note 1 x >= -0|note 1 x >= +1|note 1 x >= 1 y|note 1 x >= 1 |note 1 x  >= 1|note 1 x >=  1
note 1 x>=1|note 1 x >= 1 over 2|note 1 x over 2 >= 1|note 0 x >= 1|note -0 >= 1|note 1 >= 1|note 1 x + 1 >= 1
note 1 x + 0 >= 1|note 1 y + 1 x >= 1|note 1 x + 1 x >= 1|note x >= 1|note 0 + 1 x >= 1|note 1 x > > 1|note 00 > 1
note 1 x > 1 > 1|note 1 x > 1 and|note 1 x > 1 and |note and 1 x > 1|note 1 x > 1 1 x > 1|note 1 x > 1 and 1 x
note 1 x > 1 and 1 x > 1 and 1 x > 1|note 0 > 1 and 0 > 1 and 0 > 1 and 0 > 1|note 1 x > 1 and and 1 x > 1
note 1 x > 1  and 1 x > 1|note 1 x > 1 or 1 x > 1|note 1 x > 1, 1 x > 1|note 1 x > - 1|note  > 1|note 0 > 1 and > 1
if|if |if 1 x|if 1 x > 1 |if 1 x > 01|if 1 x > 1 and 1 x > 1|if 0 x > 1|if 1 x + 1 > 1|if  1 x > 1|if 1 x > 1 then
while|while |while 1 x|while 1 x > 1 |while 1 x > 1 and 1 x > 1|while 1 x >  1|while 1 x >= -0|while 1 x > 1 keep
choose |choose x|choose 0|choose or|Choose|choose end|or|else|end|or |end |end x|else x
keep 1 x > 1|fall 1 x by 1|keep|fall|plan x y|plan x|plan|given|given 1 x|given 1 x > 1 |given 1 x > 01
given 1 x > 1 and 1 x > 1 and 1 x > 1|given and|given 1 x > 1 and|Given 1 x > 1|given  1 x > 1|x|0|1 x > 1|=|and|by
"""

WRONG_HEADINGS = """
keep|keep |keep 1 x|keep 1 x > 1 |keep 1 x > 1 and|keep 1 x > 1 and 1 x > 1 and 1 x > 1|keep 0 x > 1|keep  1 x > 1
keep 1 x > 01|keep 1 x + 1 > 1|fall|fall |fall 1 x|fall 1 x by|fall 1 x by |fall 1 x by 0|fall 1 x by -1|fall 1 x by 01
fall 1 x by +1|fall 1 x by 1 |fall 1 x  by 1|fall 1 x by  1|fall by 1|fall 1 x by 1 over 2|fall 1 x over 1 by 1
fall 1 x over 0 by 1|fall 1 x by 1 by 1|fall 1 x by 1 x|fall 0 x by 1|fall 1 y + 1 x by 1|fall 1 x + 0 by 1|fall -0 by 1
fall  1 x by 1|fall 1 x 1|fall 1 x to 1|fall 1 x > 1 by 1|given 1 x > 1|plan x|or|else|end
"""

WRONG_FIRST = """
plan|plan |plan x |plan  x|plan x  y|plan y x|plan x x|plan X|plan xy|plan x, y|plan 1|plan x 1|planx|Plan x|plan a c b
plan x y x| plan x|  plan x|given 0 > 1|any x|set x = 1|end|choose|x|plan x = 1|plan -x|plan x y +
"""


def each(texts):
    return [line for line in texts.replace("\n", "|").split("|") if line != ""]


class LinesTest(Reads):
    def test_almost_lines(self):
        for line in each(WRONG):
            self.assert_refused("plan x y\n" + line, 2)
            self.assert_refused("plan x y\nany x\n" + line + "\nany x", 3)

    def test_almost_lines_within_blocks(self):
        for line in each(WRONG):
            self.assert_refused("plan x y\nchoose\n  " + line, 3)
            self.assert_refused("plan x y\nwhile 0 > 1\n  any x\n  choose\n  or\n    " + line + "\n  end\nend", 6)

    def test_almost_headings(self):
        for line in each(WRONG_HEADINGS):
            self.assert_refused("plan x y\nwhile 0 > 1\n  " + line, 3)
            self.assert_refused("plan x y\nchoose\n  while 0 > 1\n    " + line + "\n  end\nor\nend", 4)

    def test_almost_first_lines(self):
        for line in each(WRONG_FIRST):
            self.assert_refused(line, 1)
            self.assert_refused(line + "\nany x", 1)

    def test_blanks_too_many_or_too_few(self):
        for plan in all_plans()[:50]:
            lines = shown(plan).split("\n")
            for at, line in enumerate(lines):
                for wrong in (" " + line, "  " + line, line + " ", "\t" + line, line + "\r"):
                    self.assert_as_by_patterns("\n".join(lines[:at] + [wrong] + lines[at + 1:]))
                    self.assert_refused("\n".join(lines[:at] + [wrong] + lines[at + 1:]), at + 1)
                for blank in re.finditer(" ", line):
                    double = line[:blank.start()] + " " + line[blank.start():]
                    self.assert_refused("\n".join(lines[:at] + [double] + lines[at + 1:]), at + 1)

    def test_lines_less_deep(self):
        for plan in all_plans()[:80]:
            lines = shown(plan).split("\n")
            for at, line in enumerate(lines):
                if line.startswith("  "):
                    self.assert_refused("\n".join(lines[:at] + [line[1:]] + lines[at + 1:]), at + 1)
                    self.assert_refused("\n".join(lines[:at] + [line[2:]] + lines[at + 1:]), at + 1)

    def test_what_is_just_still_a_line(self):
        for line, statement in (
            ("set x = 0", ("set", "x", ((), 0, 1))),
            ("set x = 0 over 2", ("set", "x", ((), 0, 2))),
            ("set q = 10 x - 10 over 10", ("set", "q", (terms(x=10), -10, 10))),
            ("set x = 1 a + 1 b + 1 c", ("set", "x", (terms(a=1, b=1, c=1), 0, 1))),
            ("note 0 > 0 and 0 >= 0", note(more(0), least(0))),
            (f"note {TWENTY} x > -{TWENTY}", note(more(-TWENTY, x=TWENTY))),
            ("any a", ("any", "a")),
            ("any z", ("any", "z")),
        ):
            self.assertEqual(read("plan x\n" + line), plan_of(statement, names=("x",)))


class WordsInOtherPlacesTest(Reads):
    def test_given(self):
        self.assert_refused("plan x\ngiven 0 > 1\ngiven 0 > 1", 3)
        self.assert_refused("plan x\nany x\ngiven 0 > 1", 3)
        self.assert_refused("plan x\n  given 0 > 1", 2)
        self.assert_refused("plan x\nchoose\n  given 0 > 1", 3)

    def test_keep_and_fall(self):
        loops = "plan x\nwhile 0 > 1\n"
        self.assert_refused(loops + "  keep 0 > 1\n  keep 0 > 1", 4)
        self.assert_refused(loops + "  fall 1 x by 1\n  fall 1 x by 1", 4)
        self.assert_refused(loops + "  fall 1 x by 1\n  keep 0 > 1", 4)
        self.assert_refused(loops + "  any x\n  keep 0 > 1", 4)
        self.assert_refused(loops + "  any x\n  fall 1 x by 1", 4)
        self.assert_refused(loops + "keep 0 > 1", 3)
        self.assert_refused(loops + "fall 1 x by 1", 3)
        self.assert_refused(loops + "end\nkeep 0 > 1", 4)
        self.assert_refused(loops + "end\n  fall 1 x by 1", 4)
        self.assert_refused("plan x\nif 0 > 1\n  keep 0 > 1", 3)
        self.assert_refused("plan x\nchoose\n  fall 1 x by 1", 3)
        self.assert_refused(loops + "  while 0 > 1\n  end\n  keep 0 > 1", 5)

    def test_or_else_and_end(self):
        self.assert_refused("plan x\nchoose\nelse", 3)
        self.assert_refused("plan x\nif 0 > 1\nor", 3)
        self.assert_refused("plan x\nwhile 0 > 1\nor", 3)
        self.assert_refused("plan x\nwhile 0 > 1\nelse", 3)
        self.assert_refused("plan x\nchoose\nend", 3)
        self.assert_refused("plan x\nif 0 > 1\nend", 3)
        self.assert_refused("plan x\nchoose\nor\nor", 4)
        self.assert_refused("plan x\nif 0 > 1\nelse\nelse", 4)
        self.assert_refused("plan x\nchoose\n  or", 3)
        self.assert_refused("plan x\nchoose\nor\n  end", 4)
        self.assert_refused("plan x\nwhile 0 > 1\n  end", 3)
        self.assert_refused("plan x\nwhile 0 > 1\n  choose\n  or\nend", 5)

    def test_plan(self):
        self.assert_refused("plan x\nplan x", 2)
        self.assert_refused("plan x\nchoose\n  plan x", 3)


class ByPatternsTest(Reads):
    """Shown texts with something changed in them, told by patterns what they are."""

    SIGNS = " 0123456789-+=>abxyz\n"
    LINES = (
        "or", "else", "end", "choose", "any x", "if 0 > 1", "while 0 > 1", "keep 0 > 1", "fall 1 x by 1", "given 0 > 1",
        "note 0 > 1", "set x = 1",
    )

    def test_the_patterns_themselves(self):
        for plan in all_plans():
            self.assertIsNone(first_wrong(shown(plan)))
        for line in each(WRONG):
            self.assertEqual(first_wrong("plan x y\n" + line), 2, line)

    def test_signs_changed(self):
        chance = random.Random(10)
        for plan in all_plans()[::2]:
            text = shown(plan)
            for _ in range(40):
                at = chance.randrange(len(text) + 1)
                sign = chance.choice(self.SIGNS)
                self.assert_as_by_patterns(text[:at] + sign + text[at:])
                self.assert_as_by_patterns(text[:at] + sign + text[at + 1:])
                self.assert_as_by_patterns(text[:at] + text[at + 1:])

    def test_tokens_changed(self):
        chance = random.Random(11)
        for plan in all_plans()[::2]:
            tokens = re.split("([ \n])", shown(plan))
            for _ in range(40):
                changed = list(tokens)
                at = chance.randrange(len(tokens))
                changed[at] = chance.choice(tokens)
                self.assert_as_by_patterns("".join(changed))

    def test_lines_changed(self):
        chance = random.Random(12)
        for plan in all_plans()[::2]:
            lines = shown(plan).split("\n")
            for _ in range(40):
                at = chance.randrange(1, len(lines) + 1)
                other = "  " * chance.randint(0, 2) + chance.choice(self.LINES)
                self.assert_as_by_patterns("\n".join(lines[:at] + [other] + lines[at:]))
                self.assert_as_by_patterns("\n".join(lines[:at] + [other] + lines[at + 1:]))
                self.assert_as_by_patterns("\n".join(lines[:at] + [chance.choice(lines)] + lines[at:]))
                self.assert_as_by_patterns("\n".join(lines[:at] + lines[at + 1:]))


if __name__ == "__main__":
    unittest.main()
