"""Pairs (low, high) of bounds: of all numbers that are not below low nor above high; None is no bound."""

from letterall.wholes import is_whole


def is_bound(thing):
    return thing is None or is_whole(thing)


def is_void(pair):
    """Whether the bounds are turned about, so that no number lies within them."""
    return pair[0] is not None and pair[1] is not None and pair[0] > pair[1]


def pair_of(number):
    return (number, number)


def cut(one, other):
    """The bounds of the numbers that lie within both; void where there are none."""
    return (higher(one[0], other[0]), lower(one[1], other[1]))


def higher(one, other):
    if one is None or other is None:
        return other if one is None else one
    return max(one, other)


def lower(one, other):
    if one is None or other is None:
        return other if one is None else one
    return min(one, other)
