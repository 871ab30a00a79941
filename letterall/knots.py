"""Knots: which nodes lead to one another."""


class Knotter:
    """Goes along all ways from node to node, and ties a knot when all ways from its nodes are gone.

    Ways may be thousands of nodes long, so it keeps the nodes that it stands at in a list of its own.
    """

    def __init__(self, edges):
        self.edges = edges
        self.order = {}
        self.lows = {}
        self.loose = []
        self.tied = {}
        self.found = []

    def go_from(self, start):
        self.come_to(start)
        # Each node stands there with how many of its edges are gone.
        standing = [(start, 0)]
        while len(standing) > 0:
            here = standing.pop()
            node = here[0]
            if here[1] == len(self.edges[node]):
                self.leave(node)
                if len(standing) > 0:
                    self.sink(standing[-1][0], self.lows[node])
                continue
            standing.append((node, here[1] + 1))
            target = self.edges[node][here[1]]
            if target not in self.order:
                self.come_to(target)
                standing.append((target, 0))
            elif target not in self.tied:
                self.sink(node, self.order[target])

    def come_to(self, node):
        self.order[node] = len(self.order)
        self.lows[node] = self.order[node]
        self.loose.append(node)

    def sink(self, node, low):
        """The low of a node is the least place in the order, of nodes still loose, found on ways from it."""
        self.lows[node] = min(self.lows[node], low)

    def leave(self, node):
        if self.lows[node] != self.order[node]:
            return
        knot = []
        while node not in self.tied:
            knot.append(self.loose.pop())
            self.tied[knot[-1]] = True
        self.found.append(sorted(knot))


def knots(edges):
    knotter = Knotter(edges)
    for node in range(len(edges)):
        if node not in knotter.order:
            knotter.go_from(node)
    return knotter.found
