"""A hand's part of a world, and the part with one thing in it changed."""

# Where the things of a part stand in its tuple.
PLACE = 0
NUMBERS = 1
NAMES = 2
SETS = 3
BELL = 4

# The name of no hand, and the place of a hand that has fallen.
NOBODY = -1
FALLEN = -1


def blank(place):
    return (place, (0, 0, 0), (NOBODY, NOBODY, NOBODY), (0, 0), False)


def has_fallen(mine):
    return mine[PLACE] == FALLEN


def replaced(things, at, thing):
    return things[:at] + (thing,) + things[at + 1:]


def with_number(mine, box, number):
    return replaced(mine, NUMBERS, replaced(mine[NUMBERS], box, number))


def with_name(mine, box, name):
    return replaced(mine, NAMES, replaced(mine[NAMES], box, name))


def with_set(mine, box, some):
    return replaced(mine, SETS, replaced(mine[SETS], box, some))


def with_bell(mine, bell):
    return replaced(mine, BELL, bell)


def at_place(mine, place):
    return replaced(mine, PLACE, place)


def moved_on(mine):
    return at_place(mine, mine[PLACE] + 1)
