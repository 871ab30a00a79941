"""Webs: the owing pairs that runs come to as nodes, and the moves from one to another."""

from letterall.claims import bit_of
from letterall.deeds import mover
from letterall.goings import moves_and_worlds


class Web:
    """The owing pairs of a trail as nodes, from 0 on, in their order.

    Of each node spots tells the pair's place in the trail, able the hands that may do their step there, as a dict,
    and ways the pairs (move, node) of the moves that lead to owing pairs.
    """

    def __init__(self, program, claim, trail):
        self.spots = [place for place, pair in enumerate(trail.pairs) if pair[1]]
        self.able = []
        self.ways = []
        nodes = dict([(trail.pairs[place], node) for node, place in enumerate(self.spots)])
        for place in self.spots:
            deeds = moves_and_worlds(program, trail.pairs[place][0])
            self.able.append(dict([(mover(move), True) for move, world in deeds if mover(move) != -1]))
            behind = [(move, (world, bit_of(program, claim, world, True))) for move, world in deeds]
            self.ways.append([(move, nodes[pair]) for move, pair in behind if pair[1]])

    def targets(self):
        return [[node for move, node in ways] for ways in self.ways]


class Knot:
    """Nodes of a web that lead to one another, rising."""

    def __init__(self, web, nodes):
        self.web = web
        self.nodes = nodes
        self.within = dict([(node, True) for node in nodes])

    def ways_at(self, node):
        """The pairs (move, node) that lead from a node of the knot to nodes of it."""
        return [way for way in self.web.ways[node] if way[1] in self.within]

    def is_idle(self, hand, node):
        return hand not in self.web.able[node]

    def due_hand(self):
        """The least hand that may do its step at each node, but by none of its moves stays; -1 where there is none."""
        stayers = {}
        for node in self.nodes:
            for move, target in self.ways_at(node):
                stayers[mover(move)] = True
        for hand in sorted(self.web.able[self.nodes[0]]):
            if hand not in stayers and not any([self.is_idle(hand, node) for node in self.nodes]):
                return hand
        return -1
