import random
import unittest

from letterall.claims import bit_of
from letterall.deeds import moves
from letterall.errors import NoClaim, NoProgram
from letterall.plainly import go_plainly
from letterall.runs import run, walk
from letterall.worlds import first
from tests.samples import (breaks_at, mine, pairs_by_slow_going, some_claim, some_fitting_claim, some_program,
                           world_of)

NEVER = ("never", ("letters", 1, 1, None))


def at(place, low=1, role=0):
    return ("count", role, ("at", place), low, None)


# Two hands that each choose one of two numbers and ring their bell.
RINGERS = (1, (0, 0), ((("choose", 0, 2), ("bell",)),), (0, 0))


def slowly(program, claim, most):
    """Going through plainly, word by word as the document tells it."""
    word, pairs, ways = pairs_by_slow_going(program, claim, most, lambda world: moves(program, world))
    return {"broken": ("broken", ways[pairs[-1]]), "more": ("more",), "whole": ("whole", pairs)}[word]


def bit_behind(program, claim, worlds):
    """The bit at the last world of a run."""
    bit = False
    for world in worlds:
        bit = bit_of(program, claim, world, bit)
    return bit


class Whole(unittest.TestCase):
    def test_told_out(self):
        program = (1, (0, 0), ((("choose", 0, 2), ("less", 0, 1, 0)),), (0,))
        told = go_plainly(program, ("never", at(9)), 10)
        self.assertEqual(told, ("whole", [(world_of([mine(place, (number, 0, 0))]), False)
                                          for place, number in ((0, 0), (1, 0), (1, 1), (2, 1))]))
        self.assertIs(type(told[1]), list)

    def test_bits_of_behind(self):
        program = (1, (0, 0), ((("bell",), ("go", 0)),), (0,))
        claim = ("behind", at(9), at(1))
        first_one, rung, again = mine(0), mine(1, bell=True), mine(0, bell=True)
        self.assertEqual(go_plainly(program, claim, 10),
                         ("whole", [(world_of([each]), bit) for each, bit in ((first_one, False), (rung, True),
                                                                             (again, True))]))

    def test_a_world_with_both_bits(self):
        # By way of place 1 the bit is set, by way of place 2 it is not: place 3 is come to with either.
        program = (1, (0, 0), ((("choose", 0, 2), ("less", 0, 1, 3), ("put", 0, 0), ("go", 3)),), (0,))
        claim = ("behind", at(9), at(2))
        told = go_plainly(program, claim, 20)
        self.assertEqual(told, slowly(program, claim, 20))
        last = world_of([mine(3)])
        self.assertEqual([bit for world, bit in told[1] if world == last], [False, True])

    def test_the_claim_comes(self):
        program = (1, (0, 0), ((("bell",), ("go", 0)),), (0,))
        for claim, bits in ((("comes", at(0), at(1)), [True, False, True]),
                            (("comes", at(1), at(9)), [False, True, True])):
            told = go_plainly(program, claim, 10)
            self.assertEqual((told[0], [bit for world, bit in told[1]]), ("whole", bits))
        # P holds everywhere and Q nowhere: comes is broken nowhere for all that.
        self.assertEqual(go_plainly(program, ("comes", at(0, 0), at(9)), 10)[0], "whole")
        self.assertEqual(go_plainly(program, ("comes", at(0, 0), at(9)), 2), ("more",))

    def test_each_pair_once_in_its_order(self):
        told = go_plainly(RINGERS, NEVER, 100)
        self.assertEqual(told, slowly(RINGERS, NEVER, 100))
        self.assertEqual(len(told[1]), 25)
        self.assertEqual(len(set(told[1])), 25)

    def test_no_moves_at_all(self):
        program = (1, (0, 0), ((),), (0,))
        self.assertEqual(go_plainly(program, NEVER, 1), ("whole", [(first(program), False)]))

    def test_the_list_is_the_askers_own(self):
        go_plainly(RINGERS, NEVER, 100)[1].clear()
        self.assertEqual(len(go_plainly(RINGERS, NEVER, 100)[1]), 25)


class More(unittest.TestCase):
    def test_just_as_many_and_one_more(self):
        self.assertEqual(go_plainly(RINGERS, NEVER, 25)[0], "whole")
        for most in (24, 23, 2, 1):
            self.assertEqual(go_plainly(RINGERS, NEVER, most), ("more",))

    def test_without_end(self):
        program = (1, (0, 0), ((("raise", 0, 1), ("go", 0)),), (0,))
        for most in (1, 2, 100, 5000):
            self.assertEqual(go_plainly(program, NEVER, most), ("more",))


class Broken(unittest.TestCase):
    def test_the_first_world(self):
        for claim in (("never", at(0)), ("behind", at(0), at(1))):
            told = go_plainly(RINGERS, claim, 1)
            self.assertEqual(told, ("broken", []))
            self.assertIs(type(told[1]), list)
        self.assertEqual(go_plainly(RINGERS, ("behind", at(0), at(0)), 100)[0], "whole")

    def test_moves_told_out(self):
        self.assertEqual(go_plainly(RINGERS, ("never", at(2)), 100), ("broken", [("do", 0, 0), ("do", 0, 0)]))
        self.assertEqual(go_plainly(RINGERS, ("never", ("count", 0, ("number", 0, 1, None), 2, 2)), 100),
                         ("broken", [("do", 0, 1), ("do", 1, 1)]))
        self.assertEqual(go_plainly(RINGERS, ("never", ("count", 0, ("bell",), 2, None)), 100),
                         ("broken", [("do", 0, 0), ("do", 0, 0), ("do", 1, 0), ("do", 1, 0)]))

    def test_losses_and_falls(self):
        program = (1, (1, 1), ((("only", 0, 1), ("send", 0, 1, 0, 0)), (("take", -1, ((1, 0, 0, 1, 1),)),)), (0, 1))
        self.assertEqual(go_plainly(program, ("never", ("count", 1, ("fallen",), 1, None)), 100),
                         ("broken", [("fall", 1)]))
        claim = ("never", ("both", at(2), ("both", ("letters", 1, None, 0), at(0, role=1))))
        self.assertEqual(go_plainly(program, claim, 100),
                         ("broken", [("do", 0, 0), ("do", 0, 0), ("lose", 0, 1)]))

    def test_broken_goes_ahead_of_more(self):
        for claim in (("never", at(2)), ("never", ("count", 0, ("number", 0, 1, None), 2, 2)),
                      ("behind", at(1, 2), at(2))):
            moves_there = slowly(RINGERS, claim, 100)[1]
            broken_one = walk(RINGERS, moves_there)[-1]
            # As many pairs are come to ahead of the broken one.
            whole = go_plainly(RINGERS, ("behind", at(60), claim[2]) if claim[0] == "behind" else NEVER, 100)[1]
            ahead = whole.index((broken_one, bit_behind(RINGERS, claim, walk(RINGERS, moves_there))))
            self.assertGreater(ahead, 2)
            for most in range(1, 30):
                self.assertEqual(go_plainly(RINGERS, claim, most),
                                 ("broken", moves_there) if most >= ahead else ("more",))


class Refused(unittest.TestCase):
    WRONG_PROGRAM = (1, (0, 0), ((("bell",), ("go", 7)),), (0,))

    def test_no_program(self):
        for claim in (NEVER, None, ("never",)):
            with self.assertRaises(NoProgram) as caught:
                go_plainly(self.WRONG_PROGRAM, claim, 10)
            self.assertEqual((caught.exception.role, caught.exception.place), (0, 1))
            with self.assertRaises(NoProgram) as caught:
                go_plainly((0, (0, 0), ((),), (0,)), claim, 10)
            self.assertEqual((caught.exception.role, caught.exception.place), (-1, -1))

    def test_no_claim(self):
        for claim in (None, (), ("never",), ["never", NEVER[1]], ("never", at(0, role=1)), ("comes", NEVER[1])):
            with self.assertRaises(NoClaim):
                go_plainly(RINGERS, claim, 10)


class ManyPrograms(unittest.TestCase):
    def test_by_chance(self):
        chance = random.Random(29)
        seen = {"broken": 0, "more": 0, "whole": 0}
        for turn in range(400):
            program = some_program(chance, chance.choice(((0, 0, 1), (0, 1, 2), (0, 0), (1,))), 3, (2, 5),
                                   chance.choice(((0, 0), (1, 0), (0, 1))), chance.random() < 0.7)
            claim = chance.choice((some_claim(chance, 3), some_fitting_claim(chance, program)))
            most = chance.choice((5, 40, 120))
            told = go_plainly(program, claim, most)
            self.assertEqual(told, slowly(program, claim, most))
            seen[told[0]] += len(told[-1]) > 0
        self.assertTrue(all(amount > 30 for amount in seen.values()), seen)

    def test_no_run_breaks_what_is_whole_and_none_is_shorter(self):
        chance = random.Random(30)
        seen = {"broken": 0, "more": 0, "whole": 0}
        for turn in range(150):
            program = some_program(chance, (0, 0, 1), 3, (2, 4), forward=True)
            claim = some_fitting_claim(chance, program)
            told = go_plainly(program, claim, 300)
            seen[told[0]] += 1
            if told[0] == "broken":
                self.assertEqual(breaks_at(program, claim, walk(program, told[1])), len(told[1]))
            for each in range(10):
                worlds = run(program, lambda may: chance.randrange(1000), 30)[1]
                breaks = breaks_at(program, claim, worlds)
                if told[0] == "whole":
                    self.assertIsNone(breaks)
                    self.assertIn((worlds[-1], bit_behind(program, claim, worlds)), told[1])
                if told[0] == "broken" and breaks is not None:
                    self.assertGreaterEqual(breaks, len(told[1]))
        self.assertTrue(seen["broken"] > 30 and seen["whole"] > 30, seen)


if __name__ == "__main__":
    unittest.main()
