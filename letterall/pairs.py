"""Pairs (low, high) of bounds: of all numbers that are not below low nor above high; None is no bound."""

from letterall.wholes import is_tuple_of, is_whole


def is_bound(thing):
    return thing is None or is_whole(thing)


def is_void(pair):
    """Whether the bounds are turned about, so that no number lies within them."""
    return pair[0] is not None and pair[1] is not None and pair[0] > pair[1]


def is_pair(thing):
    return is_tuple_of(thing, 2) and is_bound(thing[0]) and is_bound(thing[1]) and not is_void(thing)


def pair_of(number):
    return (number, number)


def cut(one, other):
    """The bounds of the numbers that lie within both; void where there are none."""
    return (higher(one[0], other[0]), lower(one[1], other[1]))


def higher(one, other):
    if one is None or other is None:
        return other if one is None else one
    return max(one, other)


def lower(one, other):
    if one is None or other is None:
        return other if one is None else one
    return min(one, other)


def is_within(pair, bounds):
    return cut(pair, bounds) == pair


def spanned(one, other):
    """The least pair within which both lie."""
    low = None if one[0] is None or other[0] is None else min(one[0], other[0])
    high = None if one[1] is None or other[1] is None else max(one[1], other[1])
    return (low, high)


def more_by(bound, number):
    return None if bound is None else bound + number


def added(one, other):
    low = None if other[0] is None else more_by(one[0], other[0])
    high = None if other[1] is None else more_by(one[1], other[1])
    return (low, high)
