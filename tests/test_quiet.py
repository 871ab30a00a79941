import random
import unittest

from letterall.deeds import do, moves
from letterall.patterns import pattern_of
from letterall.quiet import quiet, square
from letterall.worlds import first, is_world
from tests.samples import BELL, mine, some_claim, some_pattern, some_program, some_world, with_truths, world_of

AWAY = ("never", ("letters", 1, 1, None))
NOUGHTS = ((0, 0),) * 3


def count(test, role=0):
    return ("count", role, test, 1, None)


def program_of(step, hands=(0, 0, 1), left=(1, 1)):
    """Hand 0 has the step at place 2 of a part of five."""
    return (2, left, ((BELL, BELL, step, BELL, BELL), (BELL,) * 3, ()), hands)


def pattern_at(place, falls=0, losses=0, hands=3, sets=(0, 0)):
    return world_of([mine(place, NOUGHTS, sets=sets)] + [mine(0, NOUGHTS)] * (hands - 1), {}, (losses, falls))


LINES = ((1, 0, 0, 1, 3), (0, 0, 0, 1, 4))

# Steps at place 2, the places at which one may go on, and what they write.
QUIET = [
    (("put", 1, 7), (3,), [("number", 1)]), (("copy", 0, 2), (3,), [("number", 0)]),
    (("raise", 2, 1), (3,), [("number", 2)]), (("sum", 1, 1), (3,), [("number", 1)]),
    (("choose", 0, 3), (3,), [("number", 0)]), (("less", 0, 4, 5), (3, 5), []), (("before", 0, 1, 4), (3, 4), []),
    (("go", 4), (4,), []), (("go", 3), (3,), []), (("me", 2), (3,), [("name", 2)]),
    (("only", 1, 1), (3,), [("name", 1)]), (("pick", 0, 0), (3,), [("name", 0)]),
    (("pick", 0, 1), (3,), [("name", 0)]), (("alike", 0, 1, 3), (3,), []), (("all", 1, 0), (3,), [("set", 1)]),
    (("empty", 0), (3,), [("set", 0)]), (("join", 0, 1), (3,), [("set", 0)]),
    (("out", 2, 1, 4), (3, 4), [("name", 2), ("set", 1)]), (("many", 0, 2, 5), (3, 5), []), (BELL, (3,), [("bell",)])]

# A test of a hand that names the box of a mark.
ASKING = {("number", 0): ("number", 0, 0, 9), ("number", 1): ("number", 1, None, None),
          ("number", 2): ("number", 2, 5, 4), ("name", 0): ("has", 0), ("name", 1): ("has", 1), ("name", 2): ("has", 2),
          ("set", 0): ("many", 0, 1), ("set", 1): ("many", 1, 6), ("bell",): ("bell",)}


class Quiet(unittest.TestCase):
    def tells(self, program, claim, pattern, told, hand=0):
        with self.subTest(program=program[2], claim=claim):
            self.assertIs(quiet(program, claim, pattern, hand), told)

    def test_quiet_ones(self):
        for step, nexts, marks in QUIET:
            for claim in (AWAY, ("behind", AWAY[1], AWAY[1])):
                self.tells(program_of(step), claim, pattern_at(2), True)
                self.tells(program_of(step), claim, pattern_at(2, sets=(3, 6)), True)
                self.tells(program_of(step), claim, pattern_at(2, losses=1), True)

    def test_a_fallen_hand_and_one_at_its_end(self):
        for place, told in ((-1, False), (0, True), (1, True), (2, True), (3, True), (4, True), (5, False)):
            self.tells(program_of(("put", 0, 0)), AWAY, pattern_at(place), told)

    def test_words_that_are_not_quiet(self):
        for step in (("send", 0, 1, 0, 0), ("take", -1, LINES), ("take", 0, LINES[:1])):
            self.tells(program_of(step), AWAY, pattern_at(2), False)

    def test_a_pick_of_a_role_without_another_hand(self):
        for role, hands, told in ((0, (0, 0, 1), True), (1, (0, 0, 1), True), (2, (0, 0, 1), False),
                                  (0, (0, 1, 1), False), (1, (0, 1, 1), True), (0, (0,), False), (0, (0, 0), True)):
            program = program_of(("pick", 0, role), hands)
            self.tells(program, AWAY, pattern_at(2, hands=len(hands)), told)

    def test_places_above_its_place(self):
        for make in (lambda place: ("go", place), lambda place: ("less", 0, 5, place),
                     lambda place: ("before", 1, 2, place), lambda place: ("alike", 0, 1, place),
                     lambda place: ("out", 0, 0, place), lambda place: ("many", 0, 1, place)):
            for place in range(6):
                self.tells(program_of(make(place)), AWAY, pattern_at(2), place > 2)

    def test_falls_left(self):
        for falls, losses, told in ((0, 0, True), (0, 1, True), (1, 0, False), (1, 1, False)):
            self.tells(program_of(("put", 0, 0)), AWAY, pattern_at(2, falls, losses), told)

    def test_the_claim_is_blind_to_its_places(self):
        for step, nexts, marks in QUIET:
            for place in range(7):
                for claim in (("never", count(("at", place))), ("never", ("not", count(("not", ("at", place))))),
                              ("behind", AWAY[1], count(("at", place))), ("behind", count(("at", place)), AWAY[1])):
                    self.tells(program_of(step), claim, pattern_at(2), place != 2 and place not in nexts)

    def test_the_claim_is_blind_to_what_it_writes(self):
        for step, nexts, marks in QUIET:
            for mark, test in ASKING.items():
                for claim in (("never", count(test)), ("behind", AWAY[1], ("not", count(("both", ("at", 9), test))))):
                    self.tells(program_of(step), claim, pattern_at(2), mark not in marks)

    def test_for_the_hands_own_role(self):
        for step, nexts, marks in QUIET:
            for test in [("at", place) for place in (2, *nexts)] + list(ASKING.values()):
                self.tells(program_of(step), ("never", count(test, role=1)), pattern_at(2), True)
        self.tells(program_of(BELL), ("never", count(("at", 0), role=1)), pattern_at(2), False, hand=2)
        self.tells(program_of(BELL), ("never", count(("at", 2), role=1)), pattern_at(2), True, hand=2)

    def test_of_which_hand(self):
        program = program_of(("send", 0, 1, 0, 0))
        pattern = world_of([mine(2, NOUGHTS), mine(1, NOUGHTS), mine(3, NOUGHTS)])
        self.assertEqual([quiet(program, AWAY, pattern, hand) for hand in range(3)], [False, True, False])

    def test_no_claim_comes(self):
        self.tells(program_of(BELL), ("comes", AWAY[1], AWAY[1]), pattern_at(2), False)

    def test_pairs_decide_nothing(self):
        for pair in ((0, 0), (None, None), (3, 9), (None, -2)):
            pattern = world_of([mine(2, (pair,) * 3)] + [mine(0, NOUGHTS)] * 2)
            self.tells(program_of(("less", 0, 4, 5)), AWAY, pattern, True)


class WhateverOthersDo(unittest.TestCase):
    def test_a_quiet_hands_moves(self):
        chance = random.Random(34)
        seen = 0
        for turn in range(1500):
            program = some_program(chance, chance.choice(((0, 0, 1), (0, 1, 2), (0, 0, 0))), forward=True, left=(1, 0))
            world, claim = some_world(chance, program), some_claim(chance, 3, ("never", "behind"))
            for hand in range(3):
                if not quiet(program, claim, pattern_of(world), hand):
                    continue
                quiet_moves = [move for move in moves(program, world) if move[:2] == ("do", hand)]
                self.assertGreater(len(quiet_moves), 0)
                others, here = [], world
                for each in range(4):
                    may = [move for move in moves(program, here) if move[:2] != ("do", hand)]
                    if may:
                        others.append(chance.choice(may))
                        here = do(program, here, others[-1])
                self.assertEqual([move for move in moves(program, here) if move[:2] == ("do", hand)], quiet_moves)
                for move in quiet_moves:
                    there = do(program, world, move)
                    for other in others:
                        there = do(program, there, other)
                    self.assertEqual(do(program, here, move), there)
                    seen += len(others) > 1
        self.assertGreater(seen, 300)

    def test_over_patterns_it_hangs_on_all_but_pairs(self):
        chance = random.Random(340)
        for turn in range(200):
            program = some_program(chance, left=(1, 0))
            pattern, claim = some_pattern(chance, program), some_claim(chance, 3, ("never", "behind"))
            parts = tuple((place, NOUGHTS, *rest) for place, pairs, *rest in pattern[0])
            for hand in range(4):
                self.assertIs(quiet(program, claim, (parts,) + pattern[1:], hand), quiet(program, claim, pattern, hand))


class Square(unittest.TestCase):
    PROGRAM = (2, (1, 1), ((("choose", 0, 2), ("send", 0, 1, 0, 0)), (("take", -1, ((1, 0, 1, 2, 1),)),)), (0, 0, 1))
    WORLD = world_of([mine(0), mine(1, (7, 0, 0), (2, -1, -1)), mine(0)], {(1, 2): [(1, 3, 0)]}, (1, 1))

    def test_told_out(self):
        self.assertTrue(is_world(self.PROGRAM, self.WORLD))
        told = world_of([mine(1, (1, 0, 0)), mine(2, (7, 0, 0), (2, -1, -1)), mine(0)],
                        {(1, 2): [(1, 3, 0), (1, 7, 2)]}, (1, 1))
        self.assertEqual(square(self.PROGRAM, self.WORLD, ("do", 0, 1), ("do", 1, 0)), told)
        self.assertEqual(square(self.PROGRAM, self.WORLD, ("do", 1, 0), ("do", 0, 1)), told)
        told = world_of([mine(0), mine(2, (7, 0, 0), (2, -1, -1)), mine(1, (3, 0, 0), (-1, 0, 1))],
                        {(1, 2): [(1, 7, 2)]}, (1, 1))
        self.assertEqual(square(self.PROGRAM, self.WORLD, ("do", 1, 0), ("do", 2, (1, 1))), told)
        self.assertEqual(square(self.PROGRAM, self.WORLD, ("do", 2, (1, 1)), ("do", 1, 0)), told)

    def none(self, one, other):
        with self.subTest(one=one, other=other):
            self.assertIsNone(square(self.PROGRAM, self.WORLD, one, other))
            self.assertIsNone(square(self.PROGRAM, self.WORLD, other, one))

    def test_of_one_hand(self):
        self.none(("do", 0, 0), ("do", 0, 1))
        self.none(("do", 0, 0), ("do", 0, 0))
        self.none(("do", 1, 0), ("do", 1, 0))

    def test_no_do(self):
        for move in (("lose", 1, 2), ("fall", 0), ("fall", 1), ("fall", 2)):
            self.assertIn(move, moves(self.PROGRAM, self.WORLD))
            self.none(("do", 0, 0), move)
            self.none(move, move)
            self.none(move, ("fall", 1))

    def test_moves_that_may_not_be_made(self):
        for thing in (("do", 0, 2), ("do", 1, 1), ("do", 2, 0), ("do", 2, (0, 1)), ("do", 2, (1, 2)), ("do", 3, 0),
                      ("do", -1, 0), ("lose", 0, 2), None, 0, "do", (), ["do", 1, 0], ("do", 1), ("do", 2, [1, 1]),
                      *with_truths(("do", 1, 0)), *with_truths(("do", 2, (1, 1)))):
            self.none(("do", 0, 1), thing)
            self.none(thing, thing)
        for thing in with_truths(("do", 0, 1)):
            self.none(thing, ("do", 1, 0))

    def test_a_move_that_may_be_made_only_behind_the_other(self):
        program = (1, (0, 0), ((("send", 0, 1, 0, 0),), (("take", -1, ((1, 0, 1, 2, 1),)),)), (0, 1))
        world = world_of([mine(names=(1, -1, -1)), mine()])
        self.assertIsNone(square(program, world, ("do", 0, 0), ("do", 1, (0, 1))))
        full = world_of([mine(names=(1, -1, -1)), mine()], {(0, 1): [(1, 0, 0)]})
        self.assertIsNone(square(program, full, ("do", 1, (0, 1)), ("do", 0, 0)))

    def test_many_programs(self):
        chance = random.Random(35)
        seen = 0
        for turn in range(300):
            program = some_program(chance)
            for world in (some_world(chance, program), first(program)):
                told = moves(program, world)
                for one, other in [(one, other) for one in told for other in told]:
                    found = square(program, world, one, other)
                    if one[0] == other[0] == "do" and one[1] != other[1]:
                        self.assertEqual(found, do(program, do(program, world, one), other))
                        self.assertEqual(found, do(program, do(program, world, other), one))
                        seen += 1
                    else:
                        self.assertIsNone(found)
        self.assertGreater(seen, 1000)


if __name__ == "__main__":
    unittest.main()
