"""Papers: closed lists of patterns, held against a program and a claim."""

from letterall.claims import bit_of, bit_over, broken_over, look_over_both
from letterall.deeds import mover
from letterall.patterns import is_pattern, lies_in, within
from letterall.programs import HANDS
from letterall.quiet import quiet
from letterall.renamed import renamed
from letterall.renamings import is_renaming, keeps_roles
from letterall.spreads import spread
from letterall.wholes import is_between, is_tuple_of
from letterall.worlds import first

# The words of the claims that papers are of.
PAPER_WORDS = ("never", "behind")

# Where the things of a paper's row stand in its tuple.
PATTERN = 0
BIT = 1
CHOSEN = 2
STEPS = 3


def fault(program, claim, paper):
    look_over_both(program, claim, PAPER_WORDS)
    rows = paper if isinstance(paper, (list, tuple)) else ()
    for number, line in enumerate(rows):
        if not is_line(program, line, len(rows)):
            return ("form", number)
    if len(rows) == 0 or not is_first(program, claim, rows[0]):
        return ("first",)
    for number, line in enumerate(rows):
        found = line_fault(program, claim, rows, line)
        if found is not None:
            return (found[0], number) + found[1:]
    return None


def is_line(program, thing, count):
    """Whether a thing has the form of a row in a paper of so many rows."""
    if not is_tuple_of(thing, 4) or not is_pattern(program, thing[PATTERN]) or not isinstance(thing[BIT], bool):
        return False
    if thing[CHOSEN] is not None and not is_between(thing[CHOSEN], 0, len(program[HANDS]) - 1):
        return False
    if not isinstance(thing[STEPS], (list, tuple)):
        return False
    return all([is_paper_step(program, step, count) for step in thing[STEPS]])


def is_paper_step(program, thing, count):
    if not is_tuple_of(thing, 2) or not is_between(thing[0], 0, count - 1):
        return False
    return is_renaming(thing[1], len(program[HANDS])) and keeps_roles(program, thing[1])


def is_first(program, claim, line):
    """Whether the first world, with its bit, is covered by the row."""
    start = first(program)
    if not lies_in(start, line[PATTERN]):
        return False
    return bit_of(program, claim, start, False) or not line[BIT]


def line_fault(program, claim, rows, line):
    """The fault of a row of good form, without its number; None where there is none."""
    if broken_over(program, claim, line[PATTERN], line[BIT]):
        return ("broken",)
    if line[CHOSEN] is not None and not quiet(program, claim, line[PATTERN], line[CHOSEN]):
        return ("chosen",)
    for number, outcome in enumerate(outcomes_of(program, line)):
        if not is_listed(program, claim, rows, line, outcome):
            return ("step", number)
    return None


def outcomes_of(program, line):
    told = spread(program, line[PATTERN])
    return [outcome for move, outcome in told if line[CHOSEN] is None or mover(move) == line[CHOSEN]]


def is_listed(program, claim, rows, line, outcome):
    bit = bit_over(program, claim, outcome, line[BIT])
    # Many steps have one and the same renaming, so what it makes of the outcome is kept.
    images = {}
    for step in line[STEPS]:
        target = rows[step[0]]
        if bit or not target[BIT]:
            if step[1] not in images:
                images[step[1]] = renamed(outcome, step[1])
            if within(images[step[1]], target[PATTERN]):
                return True
    return False
