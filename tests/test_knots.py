import random
import unittest

from letterall.knots import knots


def reached_from(edges):
    """For each node the set of the nodes to which ways lead from it, itself too."""
    found = []
    for node in range(len(edges)):
        reached, due = {node}, [node]
        while due:
            for target in edges[due.pop()]:
                if target not in reached:
                    reached.add(target)
                    due.append(target)
        found.append(reached)
    return found


class Knots(unittest.TestCase):
    def holds(self, edges):
        told = knots(edges)
        self.assertIs(type(told), list)
        for knot in told:
            self.assertIs(type(knot), list)
            self.assertEqual(knot, sorted(knot))
        self.assertEqual(sorted(node for knot in told for node in knot), list(range(len(edges))))
        reached = reached_from(edges)
        at = {node: number for number, knot in enumerate(told) for node in knot}
        for one in range(len(edges)):
            for other in reached[one]:
                self.assertEqual(at[one] == at[other], one in reached[other])
                # A knot stands behind all others to which ways lead from it.
                self.assertGreaterEqual(at[one], at[other])
        return told


class Told(Knots):
    def test_told_out(self):
        for edges, told in (([], []), ([[]], [[0]]), ([[0]], [[0]]), ([[1], []], [[1], [0]]), ([[], [0]], [[0], [1]]),
                            ([[1], [0]], [[0, 1]]), ([[1], [2], [0]], [[0, 1, 2]]), ([[2], [0], [1]], [[0, 1, 2]]),
                            ([[1, 1, 0], [0, 0]], [[0, 1]]), ([[1], [2], [1]], [[1, 2], [0]]),
                            ([[3], [0], [1], [4, 2], []], [[4], [0, 1, 2, 3]]),
                            ([[1, 2], [3], [3], []], None), ([[], [], []], None)):
            with self.subTest(edges=edges):
                found = self.holds(edges)
                if told is not None:
                    self.assertEqual(found, told)

    def test_two_rings_joined_by_one_way(self):
        self.assertEqual(self.holds([[1], [2], [0, 3], [4], [5], [3]]), [[3, 4, 5], [0, 1, 2]])
        self.assertEqual(self.holds([[1], [2], [0], [4], [5], [3, 1]]), [[0, 1, 2], [3, 4, 5]])

    def test_every_small_web(self):
        for nodes in (1, 2, 3):
            for bits in range(1 << (nodes * nodes)):
                self.holds([[to for to in range(nodes) if bits >> (node * nodes + to) & 1] for node in range(nodes)])

    def test_by_chance(self):
        chance = random.Random(47)
        for turn in range(600):
            nodes = chance.randint(2, 25)
            most = chance.choice((1, 2, 3))
            edges = [[chance.randrange(nodes) for each in range(chance.randint(0, most))] for node in range(nodes)]
            self.holds(edges)


class Long(unittest.TestCase):
    COUNT = 6000

    def test_one_behind_the_other(self):
        ahead = [[node + 1] for node in range(self.COUNT - 1)] + [[]]
        self.assertEqual(knots(ahead), [[node] for node in reversed(range(self.COUNT))])
        back = [[]] + [[node] for node in range(self.COUNT - 1)]
        self.assertEqual(knots(back), [[node] for node in range(self.COUNT)])

    def test_a_long_round(self):
        everything = list(range(self.COUNT))
        self.assertEqual(knots([[(node + 1) % self.COUNT] for node in everything]), [everything])
        self.assertEqual(knots([[node - 1 if node else self.COUNT - 1] for node in everything]), [everything])

    def test_a_long_way_to_a_ring(self):
        edges = [[node + 1] for node in range(self.COUNT - 1)] + [[self.COUNT - 3]]
        self.assertEqual(knots(edges)[:2], [[self.COUNT - 3, self.COUNT - 2, self.COUNT - 1], [self.COUNT - 4]])
        self.assertEqual(len(knots(edges)), self.COUNT - 2)


class Own(unittest.TestCase):
    def test_nothing_handed_in_is_changed(self):
        edges = [[1], [0, 2], [2, 2], []]
        told = knots(edges)
        self.assertEqual(edges, [[1], [0, 2], [2, 2], []])
        told[0].clear()
        told.clear()
        self.assertEqual(edges, [[1], [0, 2], [2, 2], []])
        self.assertEqual(sorted(knots(edges)), [[0, 1], [2], [3]])


if __name__ == "__main__":
    unittest.main()
