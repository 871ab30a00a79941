"""Rings: rounds in a knot in which each hand does a step, or may not do it at one of the nodes."""

from letterall.deeds import mover


def ring_in(knot, hands):
    """The moves of a round, one at least, from the first node of a knot that has such a round, and back to it."""
    start = knot.nodes[0]
    gone = []
    for hand in hands:
        if not is_served(knot, gone, start, hand):
            gone.extend(nearest_serving(knot, last_node(gone, start), hand))
    if len(gone) == 0 or last_node(gone, start) != start:
        gone.extend(nearest(knot, last_node(gone, start), lambda way: way[1] == start))
    return [move for move, node in gone]


def last_node(gone, start):
    return gone[-1][1] if len(gone) > 0 else start


def is_served(knot, gone, start, hand):
    """Whether, on the ways gone from the start, the hand does a step or may not do it somewhere."""
    return knot.is_idle(hand, start) or any([serves(knot, way, hand) for way in gone])


def serves(knot, way, hand):
    return mover(way[0]) == hand or knot.is_idle(hand, way[1])


def nearest_serving(knot, node, hand):
    return nearest(knot, node, lambda way: serves(knot, way, hand))


def nearest(knot, node, is_goal):
    """The fewest ways in the knot from a node on, one at least, of which the last one is a goal."""
    # Each entry is a way with the place of the entry ahead of it.
    reached = [((None, node), None)]
    seen = {}
    at = 0
    while at < len(reached):
        here = reached[at][0]
        for way in knot.ways_at(here[1]):
            if is_goal(way):
                return ways_to(reached, at) + [way]
            if way[1] not in seen:
                seen[way[1]] = True
                reached.append((way, at))
        at = at + 1
    return []


def ways_to(reached, at):
    ways = []
    while at != 0:
        ways.append(reached[at][0])
        at = reached[at][1]
    return list(reversed(ways))
