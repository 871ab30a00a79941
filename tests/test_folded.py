import random
import unittest

from letterall.claims import bit_of, broken
from letterall.deeds import do, moves
from letterall.errors import NoClaim, NoProgram
from letterall.folded import go_folded
from letterall.plainly import go_plainly
from letterall.renamed import least
from letterall.runs import walk
from letterall.worlds import first
from tests.samples import breaks_at, mine, some_claim, some_fitting_claim, some_program, world_of

NEVER = ("never", ("letters", 12, 1, None))


def at(place, low=1, role=0):
    return ("count", role, ("at", place), low, None)


# Hands that each choose one of two numbers and ring their bell.
PART = (("choose", 0, 2), ("bell",))
RINGERS = (1, (0, 0), (PART,), (0, 0))
# Each hand names another one and writes to it.
WRITERS = (1, (0, 0), ((("pick", 0, 0), ("me", 1), ("send", 0, 1, 0, 1), ("take", -1, ((1, 0, 2, 1, 4),))),), (0, 0, 0))


def slowly(program, claim, most):
    """Going through folded as the document tells it; of a broken one as many moves as lead to it."""
    start = least(program, first(program))[0]
    pairs = [(start, bit_of(program, claim, start, False))]
    ways = {pairs[0]: 0}
    if broken(program, claim, *pairs[0]):
        return ("broken", 0)
    for world, ahead in pairs:
        for move in moves(program, world):
            after = least(program, do(program, world, move))[0]
            pair = (after, bit_of(program, claim, after, ahead))
            if pair not in ways:
                pairs.append(pair)
                ways[pair] = ways[(world, ahead)] + 1
                if broken(program, claim, *pair):
                    return ("broken", ways[pair])
                if len(pairs) > most:
                    return ("more",)
    return ("whole", pairs)


class Folded(unittest.TestCase):
    def agrees(self, program, claim, most):
        """That it tells what the document asks, and what going plainly tells of it."""
        told = go_folded(program, claim, most)
        expected = slowly(program, claim, most)
        self.assertIs(type(told), tuple)
        if told[0] == "broken":
            self.assertIs(type(told[1]), list)
            self.assertEqual(("broken", len(told[1])), expected)
            self.assertEqual(breaks_at(program, claim, walk(program, told[1])), len(told[1]))
        else:
            self.assertEqual(told, expected)
        plain = go_plainly(program, claim, 20 * most)
        if "more" not in (plain[0], told[0]):
            self.assertEqual(told[0], plain[0])
            if told[0] == "broken":
                self.assertEqual(len(told[1]), len(plain[1]))
            else:
                self.assertEqual({(least(program, world)[0], bit) for world, bit in plain[1]}, set(told[1]))
        return told[0], plain[0]


class Whole(Folded):
    def test_told_out(self):
        told = go_folded(RINGERS, NEVER, 100)
        places = [((0, 0), (0, 0)), ((0, 0), (1, 0)), ((0, 0), (1, 1)), ((1, 0), (1, 0)),
                  ((1, 0), (1, 1)), ((0, 0), (2, 0))]
        expected = [(world_of([mine(*self.part(one)), mine(*self.part(other))]), False) for one, other in places]
        self.assertEqual(told[0], "whole")
        self.assertEqual(told[1][:6], expected)
        # Of 25 pairs there are 15 but for the names of the two hands.
        self.assertEqual(len(told[1]), 15)
        self.assertEqual(len(set(told[1])), 15)

    @staticmethod
    def part(told):
        place, number = told
        return (place, (number, 0, 0), (-1, -1, -1), (0, 0), place == 2)

    def test_worlds_are_least_ones(self):
        for program in (RINGERS, WRITERS):
            for world, bit in go_folded(program, NEVER, 2000)[1]:
                self.assertEqual(least(program, world)[0], world)

    def test_against_going_plainly(self):
        self.assertEqual(self.agrees(RINGERS, NEVER, 100), ("whole", "whole"))
        self.assertEqual(self.agrees(WRITERS, NEVER, 2000), ("whole", "whole"))
        self.assertEqual(self.agrees(WRITERS, ("behind", at(60), at(4)), 2000), ("whole", "whole"))

    def test_hands_of_unlike_roles_are_not_folded(self):
        program = (1, (0, 0), (PART, PART), (0, 1))
        self.assertEqual(go_folded(program, NEVER, 100), go_plainly(program, NEVER, 100))

    def test_the_claim_comes(self):
        self.assertEqual(self.agrees(RINGERS, ("comes", at(1), at(2, 2)), 100), ("whole", "whole"))

    def test_the_list_is_the_askers_own(self):
        go_folded(RINGERS, NEVER, 100)[1].clear()
        self.assertEqual(len(go_folded(RINGERS, NEVER, 100)[1]), 15)


class More(Folded):
    def test_just_as_many_and_one_more(self):
        self.assertEqual(go_folded(RINGERS, NEVER, 15)[0], "whole")
        for most in (14, 13, 2, 1):
            self.assertEqual(go_folded(RINGERS, NEVER, most), ("more",))

    def test_without_end(self):
        program = (1, (0, 0), ((("raise", 0, 1), ("go", 0)),), (0, 0))
        self.assertEqual(go_folded(program, NEVER, 300), ("more",))


class Broken(Folded):
    def test_the_first_world(self):
        self.assertEqual(go_folded(RINGERS, ("never", at(0)), 1), ("broken", []))

    def test_a_run_makes_the_moves(self):
        # Hands are renamed again and again on the way to this world.
        one = ("both", ("number", 0, 1, 1), ("bell",))
        for hands in ((0, 0), (0, 0, 0), (0, 0, 0, 0)):
            program = (1, (0, 0), (PART,), hands)
            claim = ("never", ("count", 0, one, len(hands), None))
            self.agrees(program, claim, 500)
            self.assertEqual(len(go_folded(program, claim, 500)[1]), 2 * len(hands))

    def test_letters_and_names(self):
        for claim in (("never", at(4)), ("never", at(4, 2)), ("never", ("letters", 1, 2, None)),
                      ("never", at(4, 3)), ("behind", at(4), ("letters", 1, 3, None))):
            self.assertEqual(self.agrees(WRITERS, claim, 3000)[0], "broken")

    def test_broken_goes_ahead_of_more(self):
        claim = ("never", at(2, 2))
        whole = go_folded(RINGERS, NEVER, 100)[1]
        ahead = whole.index((walk(RINGERS, go_folded(RINGERS, claim, 100)[1])[-1], False))
        for most in range(1, 16):
            self.assertEqual(go_folded(RINGERS, claim, most)[0], "broken" if most >= ahead else "more")

    def test_losses_and_falls(self):
        program = (1, (1, 1), ((("pick", 0, 0), ("send", 0, 1, 0, 0), ("go", 0)),), (0, 0, 0))
        for claim in (("never", ("both", ("count", 0, ("fallen",), 1, None), ("letters", 1, 2, None))),
                      ("never", ("both", at(1, 3), ("count", 0, ("has", 0), 3, None))),
                      ("behind", ("count", 0, ("fallen",), 1, None), ("letters", 1, 2, None))):
            self.assertEqual(self.agrees(program, claim, 100)[0], "broken")


class Refused(unittest.TestCase):
    def test_no_program(self):
        for claim in (NEVER, None, ("never",)):
            with self.assertRaises(NoProgram) as caught:
                go_folded((1, (0, 0), ((("bell",), ("go", 7)),), (0,)), claim, 10)
            self.assertEqual((caught.exception.role, caught.exception.place), (0, 1))
            with self.assertRaises(NoProgram) as caught:
                go_folded((0, (0, 0), ((),), (0,)), claim, 10)
            self.assertEqual((caught.exception.role, caught.exception.place), (-1, -1))

    def test_no_claim(self):
        for claim in (None, (), ("never",), ["never", NEVER[1]], ("never", at(0, role=1)), ("comes", NEVER[1])):
            with self.assertRaises(NoClaim):
                go_folded(RINGERS, claim, 10)


class ManyPrograms(Folded):
    def test_by_chance(self):
        chance = random.Random(31)
        seen = {}
        for turn in range(200):
            program = some_program(chance, chance.choice(((0, 0, 0), (0, 0, 1, 1), (0, 0), (1, 1, 2))), 3, (2, 4),
                                   chance.choice(((0, 0), (1, 0), (0, 1))), chance.random() < 0.8)
            claim = chance.choice((some_claim(chance, 3), some_fitting_claim(chance, program)))
            told = self.agrees(program, claim, chance.choice((10, 40, 80)))
            seen[told] = seen.get(told, 0) + 1
        for both in (("broken", "broken"), ("whole", "whole"), ("more", "more"), ("more", "whole")):
            self.assertGreater(seen.get(both, 0), 5, seen)


if __name__ == "__main__":
    unittest.main()
