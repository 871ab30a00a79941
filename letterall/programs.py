"""Programs: looked over, and what is told of them."""

from letterall.errors import NoProgram
from letterall.steps import Step, is_step
from letterall.wholes import are_between, is_between, is_tuple_of

# Where the things of a program stand in its tuple.
ROOM = 0
LEFT = 1
ROLES = 2
HANDS = 3


def look_over(program):
    if not has_frame(program):
        raise NoProgram(-1, -1)
    counts = counts_of(program)
    for role, steps in enumerate(program[ROLES]):
        for place, told in enumerate(steps):
            if not is_step(told, len(steps), counts):
                raise NoProgram(role, place)


def has_frame(thing):
    """Whether all but the steps is as it must be."""
    if not is_tuple_of(thing, 4):
        return False
    if not is_between(thing[ROOM], 1, 10) or not are_between(thing[LEFT], 2, 0, 5):
        return False
    return are_roles(thing[ROLES]) and are_hands(thing[HANDS], len(thing[ROLES]))


def are_roles(thing):
    if not isinstance(thing, tuple) or not 1 <= len(thing) <= 6:
        return False
    return all([isinstance(steps, tuple) and len(steps) <= 60 for steps in thing])


def are_hands(thing, roles):
    if not isinstance(thing, tuple) or not 1 <= len(thing) <= 6:
        return False
    return are_between(thing, len(thing), 0, roles - 1) and list(thing) == sorted(thing)


def hands_of(program, role):
    return tuple([hand for hand, played in enumerate(program[HANDS]) if played == role])


def counts_of(program):
    return tuple([program[HANDS].count(role) for role in range(len(program[ROLES]))])


def length_of(program, role):
    return len(program[ROLES][role])


def step_at(program, role, place):
    if 0 <= place < length_of(program, role):
        return Step(program[ROLES][role][place])
    return None
