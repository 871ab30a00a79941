"""Counts: rows that show that what is claimed always comes, held against a program and a claim."""

from letterall.claims import bit_of, look_over_both
from letterall.deeds import mover
from letterall.goings import moves_and_worlds
from letterall.parts import NOBODY
from letterall.programs import HANDS
from letterall.wholes import is_between, is_tuple_of, is_whole
from letterall.worlds import first, is_world

# Where the things of a row of counts stand in its tuple.
WORLD = 0
BIT = 1
COUNT = 2
HAND = 3


def count_fault(program, claim, counts):
    look_over_both(program, claim, ("comes",))
    rows = counts if isinstance(counts, (list, tuple)) else ()
    known = {}
    for number, line in enumerate(rows):
        if not is_count(program, line) or line[:COUNT] in known:
            return ("form", number)
        known[line[:COUNT]] = line
    start = first(program)
    if (start, bit_of(program, claim, start, False)) not in known:
        return ("first",)
    for number, line in enumerate(rows):
        word = line_fault(program, claim, known, line)
        if word is not None:
            return (word, number)
    return None


def is_count(program, thing):
    """Whether a thing has the form of a row of counts."""
    if not is_tuple_of(thing, 4) or not is_world(program, thing[WORLD]) or not isinstance(thing[BIT], bool):
        return False
    if not is_whole(thing[COUNT]) or thing[COUNT] < 0:
        return False
    return is_between(thing[HAND], NOBODY, len(program[HANDS]) - 1)


def line_fault(program, claim, known, line):
    """The word of the fault of a row of good form, None where there is none."""
    deeds = moves_and_worlds(program, line[WORLD])
    behind = [(move, (world, bit_of(program, claim, world, line[BIT]))) for move, world in deeds]
    if not all([pair in known for move, pair in behind]):
        return "list"
    if not line[BIT]:
        return None
    doers = [mover(move) for move, pair in behind]
    # Losses and falls have no doer, and their mover is told like nobody.
    if line[COUNT] == 0 or line[HAND] == NOBODY or line[HAND] not in doers:
        return "hand"
    return owing_fault(line, [(move, known[pair]) for move, pair in behind if pair[BIT]])


def owing_fault(line, owing):
    """The fault of an owing row by the pairs (move, row) that lead to owing rows."""
    for move, other in owing:
        if other[COUNT] > line[COUNT] or (other[COUNT] == line[COUNT] and other[HAND] != line[HAND]):
            return "grows"
    for move, other in owing:
        if other[COUNT] == line[COUNT] and mover(move) == line[HAND]:
            return "stays"
    return None
