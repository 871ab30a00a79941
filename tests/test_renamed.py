import itertools
import random
import unittest

from letterall.checks import holds, perhaps
from letterall.deeds import do, moves
from letterall.errors import NoRenaming
from letterall.renamed import least, renamed, renamed_move
from letterall.renamings import after, keeping, same, undone
from letterall.worlds import first
from tests.samples import (mine, permutations_keeping, some_pattern, some_program, some_test, some_world, with_truths,
                           world_of)

MANY_HANDS = ((0,), (0, 0), (0, 1), (0, 0, 0), (0, 1, 1), (0, 0, 1, 2), (0, 0, 0, 0), (1, 1, 2, 2), (0, 0, 0, 2, 2))

# Hand 0 becomes 2, hand 1 becomes 0, hand 2 becomes 1.
TURN = (2, 0, 1)


def slowly(world, p):
    """The world renamed, place by place as the document tells it."""
    parts, rows, left = world
    hands = range(len(parts))

    def name(hand):
        return -1 if hand == -1 else p[hand]
    new_parts = [None] * len(parts)
    for hand in hands:
        place, numbers, names, sets, bell = parts[hand]
        new_sets = tuple(sum(1 << p[member] for member in hands if some >> member & 1) for some in sets)
        new_parts[p[hand]] = (place, numbers, tuple(map(name, names)), new_sets, bell)
    new_rows = [[None] * len(parts) for to in hands]
    for to, sender in itertools.product(hands, hands):
        new_rows[p[to]][p[sender]] = tuple((kind, number, name(who)) for kind, number, who in rows[to][sender])
    return (tuple(new_parts), tuple(map(tuple, new_rows)), left)


class Renamed(unittest.TestCase):
    def test_a_world_told_out(self):
        world = world_of(
            [mine(3, (1, 2, 3), (0, 1, 2), (1, 2), True), mine(-1), mine(5, (0, -7, 0), (-1, 2, 0), (6, 5))],
            {(0, 1): [(4, 9, 2), (5, 0, -1)], (2, 2): [(1, 1, 0)], (1, 0): [(2, 2, 1)]}, (2, 1))
        self.assertEqual(renamed(world, TURN), world_of(
            [mine(-1), mine(5, (0, -7, 0), (-1, 1, 2), (3, 6)), mine(3, (1, 2, 3), (2, 0, 1), (4, 1), True)],
            {(2, 0): [(4, 9, 1), (5, 0, -1)], (1, 1): [(1, 1, 2)], (0, 2): [(2, 2, 0)]}, (2, 1)))

    def test_a_pattern_told_out(self):
        pattern = world_of(
            [mine(0, ((1, 2), (None, 3), (0, 0)), (1, -1, 2), (2, 4)), mine(1, ((None, None),) * 3),
             mine(2, ((4, None),) * 3)],
            {(0, 1): [(4, (None, 9), 2), (5, (0, 1), -1)], (1, 2): [(3, (None, None), 0)]}, (0, 1))
        self.assertEqual(renamed(pattern, TURN), world_of(
            [mine(1, ((None, None),) * 3), mine(2, ((4, None),) * 3),
             mine(0, ((1, 2), (None, 3), (0, 0)), (0, -1, 1), (1, 2))],
            {(2, 0): [(4, (None, 9), 1), (5, (0, 1), -1)], (0, 1): [(3, (None, None), 2)]}, (0, 1)))

    def test_worlds_and_patterns_by_chance(self):
        chance = random.Random(18)
        for turn in range(300):
            hands = chance.choice(MANY_HANDS + ((0, 0, 0, 1, 1, 2),))
            program = some_program(chance, hands)
            for thing in (some_world(chance, program), some_pattern(chance, program)):
                p, q = (tuple(chance.sample(range(len(hands)), len(hands))) for each in range(2))
                self.assertEqual(renamed(thing, p), slowly(thing, p))
                self.assertEqual(renamed(renamed(thing, p), q), renamed(thing, after(p, q)))
                self.assertEqual(renamed(renamed(thing, p), undone(p)), thing)
                self.assertEqual(renamed(thing, same(len(hands))), thing)

    def test_refused(self):
        world = world_of([mine(), mine(1), mine(2)])
        for thing in ((), (0,), (0, 1), (0, 1, 2, 3), (1, 0), [0, 1, 2], (0, 0, 1), (0, 1, 3), (-1, 0, 1), (1, 2, 3),
                      (0, 1, None), (0, 1, "2"), (0, 1, 2.0), None, "012", 3, True, {}, *with_truths((0, 1, 2))):
            with self.subTest(thing=thing):
                with self.assertRaises(NoRenaming):
                    renamed(world, thing)
        with self.assertRaises(NoRenaming):
            renamed(world_of([mine(0, ((0, 1),) * 3)] * 2), (0, 1, 2))


class RenamedMove(unittest.TestCase):
    def test_each_shape(self):
        for move, told in ((("do", 0, 0), ("do", 2, 0)), (("do", 1, 7), ("do", 0, 7)), (("do", 0, 1), ("do", 2, 1)),
                           (("do", 0, 2), ("do", 2, 2)), (("do", 2, (0,)), ("do", 1, (2,))),
                           (("do", 0, (2,)), ("do", 2, (1,))), (("do", 1, (-1, 0)), ("do", 0, (-1, 0))),
                           (("do", 1, (2, 2)), ("do", 0, (1, 2))), (("do", 0, (0, 1)), ("do", 2, (2, 1))),
                           (("do", 0, (0, 12)), ("do", 2, (2, 12))), (("lose", 0, 1), ("lose", 2, 0)),
                           (("lose", 2, 2), ("lose", 1, 1)), (("fall", 0), ("fall", 2)), (("fall", 2), ("fall", 1))):
            with self.subTest(move=move):
                self.assertEqual(renamed_move(move, TURN), told)
                self.assertEqual(renamed_move(told, undone(TURN)), move)
                self.assertEqual(renamed_move(move, same(3)), move)

    def test_refused(self):
        for thing in ((), (0, 0, 1), [0, 1, 2], (1, 2, 3), (-1, 0, 1), None, "012", 3, *with_truths((0, 1, 2))):
            for move in (("do", 0, 0), ("do", 0, (1, 1)), ("lose", 0, 1), ("fall", 1)):
                with self.subTest(thing=thing, move=move):
                    with self.assertRaises(NoRenaming):
                        renamed_move(move, thing)

    def test_refused_for_fewer_hands_than_the_move_names(self):
        for move in (("do", 2, 0), ("do", 0, (2,)), ("do", 1, (2, 3)), ("lose", 2, 0), ("lose", 0, 2), ("fall", 2)):
            with self.subTest(move=move):
                with self.assertRaises(NoRenaming):
                    renamed_move(move, (1, 0))


class Least(unittest.TestCase):
    def check(self, program, world):
        told = least(program, world)
        self.assertIs(type(told), tuple)
        self.assertEqual(told, min((slowly(world, p), p) for p in permutations_keeping(program[3])))

    def test_told_out(self):
        program = (1, (0, 0), ((("bell",),) * 3,), (0, 0, 0))
        world = world_of([mine(2), mine(1, names=(2, -1, -1)), mine(1, names=(0, -1, -1))])
        # Hand 2 or hand 1 goes first, with the hand that it names behind it; the other one goes last.
        self.assertEqual(least(program, world), (
            world_of([mine(1, names=(1, -1, -1)), mine(1, names=(2, -1, -1)), mine(2)]), (2, 0, 1)))

    def test_the_first_renaming_that_leads_to_it(self):
        program = (1, (0, 0), ((("bell",),) * 3,), (0, 0, 0))
        self.assertEqual(least(program, world_of([mine(1)] * 3)), (world_of([mine(1)] * 3), (0, 1, 2)))
        self.assertEqual(least(program, world_of([mine(2), mine(1), mine(1)])),
                         (world_of([mine(1), mine(1), mine(2)]), (2, 0, 1)))

    def test_letters_decide_last(self):
        program = (2, (0, 0), ((("bell",),) * 3, (("bell",),)), (0, 0, 1))
        world = world_of([mine(), mine(), mine()], {(0, 2): [(3, 0, -1)], (1, 2): [(2, 5, -1)]})
        self.assertEqual(least(program, world), (
            world_of([mine(), mine(), mine()], {(1, 2): [(3, 0, -1)], (0, 2): [(2, 5, -1)]}), (1, 0, 2)))

    def test_roles_are_kept(self):
        program = (1, (0, 0), ((("bell",),) * 3,) * 2, (0, 1))
        world = world_of([mine(2), mine(1)])
        self.assertEqual(least(program, world), (world, (0, 1)))

    def test_worlds_by_chance(self):
        chance = random.Random(19)
        for turn in range(400):
            program = some_program(chance, chance.choice(MANY_HANDS), lengths=(1, 2))
            self.check(program, some_world(chance, program))

    def test_worlds_much_alike(self):
        chance = random.Random(190)
        for turn in range(400):
            hands = chance.choice(MANY_HANDS)
            few = [mine(chance.randint(0, 1), names=(chance.randint(-1, len(hands) - 1), -1, -1),
                        sets=(chance.choice((0, 0, chance.randrange(1 << len(hands)))), 0)) for each in range(2)]
            letters = {(chance.randrange(len(hands)), chance.randrange(len(hands))): [(1, 0, chance.randint(-1, 0))]
                       for each in range(chance.randint(0, 2))}
            program = (1, (0, 0), ((("bell",),),) * 3, hands)
            self.check(program, world_of([chance.choice(few) for hand in hands], letters))

    def test_all_worlds_of_four_hands_with_a_name_each(self):
        program = (1, (0, 0), ((("bell",),),), (0,) * 4)
        for names in itertools.product(range(-1, 4), repeat=4):
            self.check(program, world_of([mine(names=(name, -1, -1)) for name in names]))

    def test_six_hands(self):
        chance = random.Random(191)
        program = some_program(chance, (0,) * 6, lengths=(1, 1))
        for turn in range(3):
            self.check(program, some_world(chance, program))
        self.check(program, first(program))

    def test_worlds_that_moves_come_to(self):
        chance = random.Random(192)
        for turn in range(60):
            program = some_program(chance, (0, 0, 0, 1))
            world = first(program)
            for made in range(12):
                self.check(program, world)
                told = moves(program, world)
                if told:
                    world = do(program, world, chance.choice(told))

    def test_renamed_ones_have_the_same_least(self):
        chance = random.Random(193)
        for turn in range(50):
            program = some_program(chance, chance.choice(MANY_HANDS))
            world = some_world(chance, program)
            for p in keeping(program):
                self.assertEqual(least(program, renamed(world, p))[0], least(program, world)[0])


class AllStays(unittest.TestCase):
    def test_renamed_moves_lead_to_renamed_worlds(self):
        chance = random.Random(20)
        for turn in range(150):
            program = some_program(chance, chance.choice(MANY_HANDS))
            for p in keeping(program):
                self.assertEqual(renamed(first(program), p), first(program))
            for world in (some_world(chance, program), first(program)):
                p = chance.choice(keeping(program))
                there = renamed(world, p)
                self.assertEqual(sorted(map(str, moves(program, there))),
                                 sorted(str(renamed_move(move, p)) for move in moves(program, world)))
                for move in moves(program, world):
                    self.assertEqual(do(program, there, renamed_move(move, p)), renamed(do(program, world, move), p))

    def test_claims_tell_the_same(self):
        chance = random.Random(21)
        for turn in range(300):
            program = some_program(chance, chance.choice(MANY_HANDS))
            p = chance.choice(keeping(program))
            test = some_test(chance, 3)
            world, pattern = some_world(chance, program), some_pattern(chance, program)
            self.assertIs(holds(program, renamed(world, p), test), holds(program, world, test))
            self.assertIs(perhaps(program, renamed(pattern, p), test), perhaps(program, pattern, test))


if __name__ == "__main__":
    unittest.main()
