"""Worlds: the first one, what is told of them, which things are some, and worlds with one thing changed."""

from letterall.parts import BELL, FALLEN, NAMES, NOBODY, NUMBERS, PLACE, SETS, blank, replaced
from letterall.programs import HANDS, LEFT, ROOM, length_of
from letterall.wholes import are_between, is_between, is_tuple_of, is_whole

# Where the things of a world stand in its tuple; LEFT_STILL is how many losses and falls may come.
PARTS = 0
ROWS = 1
LEFT_STILL = 2


def first(program):
    count = len(program[HANDS])
    return ((blank(0),) * count, (((),) * count,) * count, program[LEFT])


def all_hands(world):
    return list(range(len(world[PARTS])))


def part(world, hand):
    return world[PARTS][hand]


def row(world, sender, to):
    return world[ROWS][to][sender]


def with_part(world, hand, mine):
    return replaced(world, PARTS, replaced(world[PARTS], hand, mine))


def with_row(world, sender, to, letters):
    return replaced(world, ROWS, replaced(world[ROWS], to, replaced(world[ROWS][to], sender, letters)))


def is_world(program, thing):
    return has_world_form(program, thing, is_whole)


def has_world_form(program, thing, is_number):
    """Whether a thing is a world of the program, or something like it with other things for numbers."""
    if not is_tuple_of(thing, 3):
        return False
    if not are_parts(program, thing[PARTS], is_number) or not are_rows(program, thing[ROWS], is_number):
        return False
    return is_left(thing[LEFT_STILL], program[LEFT])


def is_left(thing, most):
    return is_tuple_of(thing, 2) and is_between(thing[0], 0, most[0]) and is_between(thing[1], 0, most[1])


def are_parts(program, thing, is_number):
    if not is_tuple_of(thing, len(program[HANDS])):
        return False
    return all([is_part(program, role, mine, is_number) for role, mine in zip(program[HANDS], thing)])


def is_part(program, role, thing, is_number):
    hands = len(program[HANDS])
    if not is_tuple_of(thing, 5) or not is_between(thing[PLACE], FALLEN, length_of(program, role)):
        return False
    if not is_tuple_of(thing[NUMBERS], 3) or not all([is_number(number) for number in thing[NUMBERS]]):
        return False
    if not are_between(thing[NAMES], 3, NOBODY, hands - 1):
        return False
    return are_between(thing[SETS], 2, 0, (1 << hands) - 1) and isinstance(thing[BELL], bool)


def are_rows(program, thing, is_number):
    hands = len(program[HANDS])
    if not is_tuple_of(thing, hands):
        return False
    for rows in thing:
        if not is_tuple_of(rows, hands) or not all([is_row(program, letters, is_number) for letters in rows]):
            return False
    return True


def is_row(program, thing, is_number):
    if not isinstance(thing, tuple) or len(thing) > program[ROOM]:
        return False
    return all([is_letter(letter, len(program[HANDS]), is_number) for letter in thing])


def is_letter(thing, hands, is_number):
    if not is_tuple_of(thing, 3):
        return False
    return is_between(thing[0], 1, 12) and is_number(thing[1]) and is_between(thing[2], NOBODY, hands - 1)
