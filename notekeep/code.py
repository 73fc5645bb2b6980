"""Code made of plans, and the machine that goes through code."""

from notekeep.plans import blocks_of, must_plan
from notekeep.runs import Traveller


def code(plan):
    must_plan(plan)
    return code_of_block((), plan[2], 0) + [("halt",)]


# The number is that of the first instruction that is made here.
def code_of_block(place, block, number):
    instructions = []
    for index, statement in enumerate(block):
        instructions.extend(code_of_statement(place + (index,), statement, number + len(instructions)))
    return instructions


def code_of_statement(place, statement, number):
    word = statement[0]
    if word == "choose":
        return code_of_branch(place, ("fork", place), blocks_of(statement), number)
    if word == "if":
        return code_of_branch(place, ("unless", place, statement[1]), blocks_of(statement), number)
    if word == "while":
        return code_of_loop(place, statement, number)
    return [(word, place) + statement[1:]]


def code_of_branch(place, asking, blocks, number):
    first = code_of_block(place + (0,), blocks[0], number + 1)
    to = number + 1 + len(first) + 1
    second = code_of_block(place + (1,), blocks[1], to)
    return [asking + (to,)] + first + [("jump", to + len(second))] + second


def code_of_loop(place, statement, number):
    inner = code_of_block(place + (0,), statement[4], number + 2)
    behind = number + 2 + len(inner) + 1
    head = ("head", place, statement[2], statement[3], statement[1], behind)
    return [("enter", place), head] + inner + [("jump", number + 1)]


def walk(code, names, start, turns, givens):
    traveller = Traveller(names, start, turns, givens)
    number = 0
    while number is not None:
        number = number_behind(traveller, code[number], number)
    return traveller.told()


# The number of the instruction to go on with, or None where the machine stops.
def number_behind(traveller, instruction, number):
    word = instruction[0]
    if word == "halt":
        return None
    if word == "jump":
        return instruction[1]
    if word == "enter":
        traveller.enter(instruction[1])
        return number + 1
    way = way_of(traveller, instruction)
    if way is None:
        return None
    return number + 1 if way == 0 else instruction[-1]


def way_of(traveller, instruction):
    word = instruction[0]
    place = instruction[1]
    if word == "set":
        return traveller.put(place, instruction[2], instruction[3])
    if word == "any":
        return traveller.take(place, instruction[2])
    if word == "note":
        return traveller.note(place, instruction[2])
    if word == "fork":
        return traveller.fork(place)
    if word == "unless":
        return traveller.ask(place, instruction[2])
    return traveller.head(place, instruction[2], instruction[3], instruction[4])
