"""Stretching: pairs (low, high) that grow further than they must, so that they soon grow no more."""

from letterall.claims import all_within
from letterall.pairs import spanned
from letterall.programs import ROLES


def marks_of(program, claim):
    """The numbers, rising, at which a bound that grows may come to a stand: those that the claim or a less asks for."""
    found = {}
    for test in all_within(hand_tests_of(claim)):
        if test[0] == "number":
            add_marks(found, test[2])
            add_marks(found, test[3])
    for steps in program[ROLES]:
        for step in steps:
            if step[0] == "less":
                add_marks(found, step[2])
    return sorted(found)


def hand_tests_of(claim):
    return [test[2] for test in all_within(claim[1:]) if test[0] == "count"]


def add_marks(found, bound):
    if bound is not None:
        for number in (bound - 1, bound, bound + 1):
            found[number] = True


def stretched(old, new, marks):
    """A pair within which both lie: where a bound of the old one must grow it grows to the next mark, or to none."""
    both = spanned(old, new)
    low = both[0] if both[0] == old[0] else last_below(both[0], marks)
    high = both[1] if both[1] == old[1] else first_above(both[1], marks)
    return (low, high)


def last_below(bound, marks):
    """The greatest mark that is not above the bound, None where there is none."""
    fitting = [mark for mark in marks if bound is not None and mark <= bound]
    return fitting[-1] if len(fitting) > 0 else None


def first_above(bound, marks):
    """The least mark that is not below the bound, None where there is none."""
    fitting = [mark for mark in marks if bound is not None and mark >= bound]
    return fitting[0] if len(fitting) > 0 else None
