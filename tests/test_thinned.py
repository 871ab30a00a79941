import random
import unittest

from letterall.deeds import moves
from letterall.errors import NoClaim, NoProgram
from letterall.papers import fault
from letterall.patterns import pattern_of
from letterall.plainly import go_plainly
from letterall.quiet import quiet
from letterall.runs import walk
from letterall.thinned import go_thinned
from letterall.worlds import first
from tests.samples import (BELL, breaks_at, mine, pairs_by_slow_going, some_claim, some_fitting_claim, some_program,
                           world_of)

NEVER = ("never", ("letters", 1, 1, None))


def at(place, low=1, role=0):
    return ("count", role, ("at", place), low, None)


# Two hands that each choose one of two numbers and ring their bell: 25 pairs, all steps quiet.
RINGERS = (1, (0, 0), ((("choose", 0, 2), BELL),), (0, 0))
# The same, but one hand may fall, so that nobody is quiet ahead of the fall.
FALLERS = (1, (0, 1), RINGERS[2], (0, 0))
# A hand that names the other one and writes to it, and the other one, who takes it and rings.
WRITER = (("only", 0, 1), ("put", 0, 7), ("send", 0, 1, 0, 1), BELL)
READER = (("take", -1, ((1, 0, 0, 1, 1),)), BELL)
WRITERS = (1, (0, 0), (WRITER, READER), (0, 1))
LOSERS = (1, (1, 0), (WRITER, READER), (0, 1))


def chosen_at(program, claim, world):
    hands = range(len(program[3]))
    return min([hand for hand in hands if quiet(program, claim, pattern_of(world), hand)], default=None)


def slowly(program, claim, most):
    def made_at(world):
        chosen = chosen_at(program, claim, world)
        return [move for move in moves(program, world) if chosen is None or move[:2] == ("do", chosen)]
    return pairs_by_slow_going(program, claim, most, made_at)


class Thinned(unittest.TestCase):
    def agrees(self, program, claim, most):
        """That it tells what the document asks; its word, and that of going plainly."""
        told = go_thinned(program, claim, most)
        word, pairs, ways = slowly(program, claim, most)
        self.assertIs(type(told), tuple)
        self.assertEqual(told[0], "paper" if word == "whole" else word)
        if word == "broken":
            self.assertEqual(told, ("broken", ways[pairs[-1]]))
            self.assertIs(type(told[1]), list)
            self.assertEqual(breaks_at(program, claim, walk(program, told[1])), len(told[1]))
        elif word == "more":
            self.assertEqual(told, ("more",))
        else:
            self.is_paper_of(program, claim, told[1], pairs)
        plain = go_plainly(program, claim, 10 * most)
        if "more" not in (plain[0], word):
            self.assertEqual(word, plain[0])
        return word, plain[0]

    def is_paper_of(self, program, claim, paper, pairs):
        self.assertIs(type(paper), list)
        self.assertEqual([row[:2] for row in paper], [(pattern_of(world), bit) for world, bit in pairs])
        self.assertEqual([row[2] for row in paper], [chosen_at(program, claim, world) for world, bit in pairs])
        self.assertIsNone(fault(program, claim, paper))


class Paper(Thinned):
    def test_told_out(self):
        told = go_thinned(RINGERS, NEVER, 100)

        def row(one, other, chosen, steps):
            parts = [mine(place, (number, 0, 0), bell=place == 2) for place, number in (one, other)]
            return (pattern_of(world_of(parts)), False, chosen, {(to, (0, 1)) for to in steps})
        # Hand 0 goes to its end alone, then hand 1.
        expected = [row((0, 0), (0, 0), 0, (1, 2)), row((1, 0), (0, 0), 0, (3,)), row((1, 1), (0, 0), 0, (4,)),
                    row((2, 0), (0, 0), 1, (5, 6)), row((2, 1), (0, 0), 1, (7, 8)),
                    row((2, 0), (1, 0), 1, (9,)), row((2, 0), (1, 1), 1, (10,)), row((2, 1), (1, 0), 1, (11,)),
                    row((2, 1), (1, 1), 1, (12,)), row((2, 0), (2, 0), None, ()), row((2, 0), (2, 1), None, ()),
                    row((2, 1), (2, 0), None, ()), row((2, 1), (2, 1), None, ())]
        self.assertEqual(told[0], "paper")
        self.assertEqual([(*row[:3], set(row[3])) for row in told[1]], expected)
        self.assertIsNone(fault(RINGERS, NEVER, told[1]))

    def test_with_and_without_quiet_hands(self):
        # Going plainly there are 25 pairs. Where the claim sees the bell, both choose, then both ring in any order.
        for claim, rows in ((NEVER, 13), (("behind", NEVER[1], NEVER[1]), 13), (("never", at(9)), 13),
                            (("never", at(7, 2)), 13),
                            (("never", ("both", ("count", 0, ("bell",), 3, None), NEVER[1])), 19)):
            self.assertEqual(self.agrees(RINGERS, claim, 100), ("whole", "whole"))
            self.assertEqual(len(go_thinned(RINGERS, claim, 100)[1]), rows)
        nobody_quiet = ("never", ("count", 0, ("both", ("at", 1), ("at", 2)), 1, None))
        self.assertEqual(self.agrees(RINGERS, nobody_quiet, 100), ("whole", "whole"))
        self.assertEqual(len(go_thinned(RINGERS, nobody_quiet, 100)[1]), 25)
        self.assertEqual({row[2] for row in go_thinned(RINGERS, nobody_quiet, 100)[1]}, {None})

    def test_losses(self):
        for program in (WRITERS, LOSERS):
            for claim in (("never", at(9)), ("behind", at(2, role=1), at(3)), ("never", ("letters", 1, 2, None)),
                          ("behind", ("letters", 1, 1, None), at(3)), ("never", ("letters", 2, 1, None))):
                self.assertEqual(self.agrees(program, claim, 100), ("whole", "whole"))

    def test_falls(self):
        for claim in (NEVER, ("never", ("count", 0, ("fallen",), 2, None)), ("behind", at(9), at(2))):
            self.assertEqual(self.agrees(FALLERS, claim, 100), ("whole", "whole"))
        for row in go_thinned(FALLERS, NEVER, 100)[1]:
            fallen = [part[0] for part in row[0][0]].count(-1)
            if fallen == 0:
                self.assertIsNone(row[2])

    def test_bits_of_behind(self):
        claim = ("behind", at(3, role=0, low=2), at(3))
        told = go_thinned(WRITERS, claim, 100)
        self.assertEqual({row[1] for row in told[1]}, {True, False})
        self.assertEqual(self.agrees(WRITERS, claim, 100), ("whole", "whole"))

    def test_no_moves_at_all(self):
        program = (1, (0, 0), ((),), (0,))
        self.assertEqual(go_thinned(program, NEVER, 1), ("paper", [(pattern_of(first(program)), False, None, ())]))

    def test_going_back_is_not_quiet(self):
        # Each hand goes round for ever; who goes back is not chosen, so the other one's worlds come too.
        program = (1, (0, 0), ((BELL, ("go", 0)),), (0, 0))
        self.assertEqual(self.agrees(program, NEVER, 100), ("whole", "whole"))
        claim = ("never", ("count", 0, ("at", 1), 2, None))
        self.assertEqual(self.agrees(program, claim, 100), ("broken", "broken"))

    def test_the_lists_are_the_askers_own(self):
        told = go_thinned(RINGERS, NEVER, 100)
        told[1].clear()
        self.assertEqual(len(go_thinned(RINGERS, NEVER, 100)[1]), 13)
        broken_by = go_thinned(RINGERS, ("never", at(2)), 100)
        expected = list(broken_by[1])
        broken_by[1].clear()
        self.assertEqual(go_thinned(RINGERS, ("never", at(2)), 100)[1], expected)


class More(Thinned):
    def test_just_as_many_one_less_and_one_more(self):
        for program, claim, count in ((RINGERS, NEVER, 13), (FALLERS, NEVER, None), (LOSERS, ("never", at(9)), None)):
            count = count or len(go_thinned(program, claim, 500)[1])
            self.assertGreater(count, 5)
            for most, word in ((count - 1, "more"), (count, "paper"), (count + 1, "paper"), (1, "more"), (2, "more")):
                self.assertEqual(go_thinned(program, claim, most)[0], word)
            self.assertEqual(go_thinned(program, claim, count - 1), ("more",))

    def test_without_end(self):
        program = (1, (0, 0), ((("raise", 0, 1), ("go", 0)),), (0, 0))
        for most in (1, 2, 100, 5000):
            self.assertEqual(go_thinned(program, NEVER, most), ("more",))

    def test_broken_goes_ahead_of_more(self):
        for program, claim in ((RINGERS, ("never", at(2, 2))), (RINGERS, ("never", ("count", 0, BELL, 2, None))),
                               (LOSERS, ("never", at(2, role=1)))):
            word, pairs, ways = slowly(program, claim, 500)
            self.assertEqual(word, "broken")
            ahead = len(pairs) - 1
            for most in range(1, ahead + 3):
                expected = ("broken", ways[pairs[-1]]) if most >= ahead else ("more",)
                self.assertEqual(go_thinned(program, claim, most), expected)


class Broken(Thinned):
    def test_the_first_world(self):
        for claim in (("never", at(0)), ("behind", at(0), at(1))):
            self.assertEqual(go_thinned(RINGERS, claim, 1), ("broken", []))

    def test_moves_told_out(self):
        # At the first world hand 0 is quiet, since the claim asks of the bell alone; its next step is seen.
        claim = ("never", ("count", 0, BELL, 1, None))
        self.assertEqual(go_thinned(RINGERS, claim, 100),
                         ("broken", [("do", 0, 0), ("do", 1, 0), ("do", 0, 0)]))
        self.assertEqual(len(go_plainly(RINGERS, claim, 100)[1]), 2)
        self.assertEqual(self.agrees(RINGERS, claim, 100), ("broken", "broken"))

    def test_losses_and_falls(self):
        claim = ("never", ("both", at(4), ("both", ("letters", 1, None, 0), at(0, role=1))))
        self.assertEqual(go_thinned(LOSERS, claim, 100)[1].count(("lose", 0, 1)), 1)
        self.assertEqual(self.agrees(LOSERS, claim, 100), ("broken", "broken"))
        self.assertEqual(self.agrees(WRITERS, claim, 100), ("whole", "whole"))
        claim = ("never", ("count", 0, ("fallen",), 1, None))
        self.assertEqual(go_thinned(FALLERS, claim, 100), ("broken", [("fall", 0)]))

    def test_what_only_another_order_of_hands_breaks(self):
        # Broken only where hand 1 is ahead of hand 0, though the least hand is gone through first.
        ahead = ("both", at(2, role=1), at(0, role=0))
        program = (1, (0, 0), ((BELL, BELL), (BELL, BELL)), (0, 1))
        for claim in (("never", ahead), ("behind", at(2, role=1), at(1, role=0))):
            self.assertEqual(self.agrees(program, claim, 100), ("broken", "broken"))


class Refused(unittest.TestCase):
    def test_no_program(self):
        for claim in (NEVER, None, ("comes", NEVER[1], NEVER[1]), ("never",)):
            with self.assertRaises(NoProgram) as caught:
                go_thinned((1, (0, 0), ((BELL, ("go", 7)),), (0,)), claim, 10)
            self.assertEqual((caught.exception.role, caught.exception.place), (0, 1))
            with self.assertRaises(NoProgram) as caught:
                go_thinned((0, (0, 0), ((),), (0,)), claim, 10)
            self.assertEqual((caught.exception.role, caught.exception.place), (-1, -1))

    def test_no_claim(self):
        for claim in (None, (), ("never",), ["never", NEVER[1]], ("never", at(0, role=1)), ("comes", NEVER[1]),
                      ("comes", NEVER[1], NEVER[1]), ("comes", at(0), at(1))):
            with self.assertRaises(NoClaim):
                go_thinned(RINGERS, claim, 10)


class ManyPrograms(Thinned):
    def test_by_chance(self):
        chance = random.Random(40)
        seen = {}
        for turn in range(400):
            program = some_program(chance, chance.choice(((0, 0, 1), (0, 1, 2), (0, 0), (1,))), 3, (2, 5),
                                   chance.choice(((0, 0), (0, 0), (1, 0), (0, 1))), chance.random() < 0.7)
            claim = chance.choice((some_claim(chance, 3, ("never", "behind")), some_fitting_claim(chance, program)))
            both = self.agrees(program, claim, chance.choice((5, 40, 120)))
            seen[both] = seen.get(both, 0) + 1
        for both in (("broken", "broken"), ("whole", "whole"), ("more", "more")):
            self.assertGreater(seen.get(both, 0), 15, seen)

    def test_it_goes_on_where_plainly_there_are_more(self):
        # Five hands with three quiet steps each: 4 ** 5 worlds plainly, sixteen thinned.
        program = (1, (0, 0), ((BELL, ("me", 0), ("put", 0, 3)),), (0,) * 5)
        self.assertEqual(go_plainly(program, NEVER, 1000), ("more",))
        told = go_thinned(program, NEVER, 16)
        self.assertEqual((told[0], len(told[1])), ("paper", 16))
        self.assertIsNone(fault(program, NEVER, told[1]))


if __name__ == "__main__":
    unittest.main()
