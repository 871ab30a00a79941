import random
import unittest

from letterall.deeds import moves
from letterall.makers import paper_of
from letterall.papers import fault
from letterall.patterns import pattern_of
from letterall.plainly import go_plainly
from letterall.renamings import same
from letterall.worlds import first
from tests.samples import BELL, mine, some_claim, some_fitting_claim, some_program, world_of

NEVER = ("never", ("letters", 1, 1, None))
RINGERS = (1, (0, 0), ((("choose", 0, 2), BELL),), (0, 0))


def at(place, low=1, role=0):
    return ("count", role, ("at", place), low, None)


class PaperOf(unittest.TestCase):
    def holds(self, program, claim, pairs):
        paper = paper_of(program, claim, pairs)
        self.assertIsInstance(paper, (list, tuple))
        self.assertEqual([row[:3] for row in paper], [(pattern_of(world), bit, None) for world, bit in pairs])
        for world_and_bit, row in zip(pairs, paper):
            self.assertEqual(len(row), 4)
            self.assertEqual({p for to, p in row[3]}, {same(len(program[3]))} if moves(program, world_and_bit[0]) else set())
        self.assertIsNone(fault(program, claim, paper))
        return paper

    def test_told_out(self):
        program = (1, (0, 0), ((("choose", 0, 2), ("less", 0, 1, 0)),), (0,))
        pairs = go_plainly(program, ("never", at(9)), 10)[1]
        paper = self.holds(program, ("never", at(9)), pairs)
        rows = [(pattern_of(world_of([mine(place, (number, 0, 0))])), False, None) for place, number in
                ((0, 0), (1, 0), (1, 1), (2, 1))]
        self.assertEqual([row[:3] for row in paper], rows)
        self.assertEqual([[to for to, p in row[3]] for row in paper], [[1, 2], [0], [3], []])

    def test_one_row(self):
        program = (1, (0, 0), ((),), (0,))
        paper = self.holds(program, NEVER, [(first(program), False)])
        self.assertEqual([tuple(row[3]) for row in paper], [()])

    def test_bits_of_behind(self):
        program = (1, (0, 0), ((("choose", 0, 2), BELL, BELL),), (0, 0))
        for q in (at(1), at(2), at(3), ("count", 0, ("number", 0, 1, 1), 1, None)):
            pairs = go_plainly(program, ("behind", at(9), q), 200)[1]
            self.assertEqual({bit for world, bit in pairs}, {True, False})
            self.holds(program, ("behind", at(9), q), pairs)

    def test_losses_and_falls(self):
        program = (2, (1, 1), ((("only", 0, 1), ("send", 0, 1, 0, 0), ("go", 1)), (("take", -1, ((1, 0, 0, 1, 0),)),)),
                   (0, 1))
        for claim in (("never", at(9)), ("behind", at(9), ("count", 1, ("fallen",), 1, None)),
                      ("never", ("letters", 1, 3, None))):
            pairs = go_plainly(program, claim, 500)[1]
            self.assertGreater(len(pairs), 20)
            self.holds(program, claim, pairs)

    def test_it_has_the_fault_of_a_missing_row(self):
        # Each row is needed: with one missing there is a fault, so that none is told for nothing.
        paper = paper_of(RINGERS, NEVER, go_plainly(RINGERS, NEVER, 100)[1])
        for number, row in enumerate(paper):
            for step in row[3]:
                fewer = tuple(other for other in row[3] if other != step)
                other = paper[:number] + [row[:3] + (fewer,)] + paper[number + 1:]
                self.assertEqual(fault(RINGERS, NEVER, other)[:2], ("step", number))

    def test_nothing_handed_in_is_changed_and_lists_are_own(self):
        pairs = go_plainly(RINGERS, NEVER, 100)[1]
        again = list(pairs)
        paper = paper_of(RINGERS, NEVER, pairs)
        self.assertEqual(pairs, again)
        paper.clear()
        self.assertEqual(pairs, again)
        self.assertEqual(len(paper_of(RINGERS, NEVER, pairs)), 25)

    def test_by_chance(self):
        chance = random.Random(42)
        seen = 0
        for turn in range(250):
            program = some_program(chance, chance.choice(((0, 0, 1), (0, 1, 2), (0, 0), (1,))), 3, (1, 5),
                                   chance.choice(((0, 0), (1, 0), (0, 1))), chance.random() < 0.7)
            claim = chance.choice((some_claim(chance, 3, ("never", "behind")), some_fitting_claim(chance, program)))
            told = go_plainly(program, claim, 150)
            if told[0] == "whole":
                self.holds(program, claim, told[1])
                seen += 1
        self.assertGreater(seen, 60)


if __name__ == "__main__":
    unittest.main()
