"""Renamings of hands: tuples p by which hand h is named p[h]."""

from letterall.programs import HANDS, hands_of
from letterall.wholes import are_between


def same(count):
    return tuple(range(count))


def after(p, q):
    """The renaming of first p and then q."""
    return tuple([q[name] for name in p])


def undone(p):
    return tuple([p.index(hand) for hand in range(len(p))])


def is_renaming(thing, count):
    return are_between(thing, count, 0, count - 1) and len(set(thing)) == count


def keeps_roles(program, p):
    hands = program[HANDS]
    return all([hands[name] == role for name, role in zip(p, hands)])


def keeping(program):
    """All renamings that keep roles, rising."""
    found = [()]
    for role in program[HANDS]:
        longer = []
        for p in found:
            longer.extend([p + (name,) for name in hands_of(program, role) if name not in p])
        found = longer
    return found
