import itertools
import random
import unittest

from letterall.patterns import is_pattern, joined, lies_in, pattern_of, within
from letterall.worlds import first
from tests.samples import (at_path, changed, mine, numbers_within, some_pattern, some_program, some_world,
                           tuples_within, world_of)

PROGRAM = (2, (1, 2), ((("bell",),) * 5, (("bell",),) * 6), (0, 1, 1))
FREE = (None, None)
NOUGHTS = ((0, 0),) * 3

PATTERN = world_of(
    [mine(3, ((2, 9), (None, -7), (10 ** 60, 10 ** 60)), (1, -1, 0), (5, 0)),
     mine(6, (FREE, (0, None), (0, 0)), (-1, 2, 2), (7, 1), True), mine(-1, NOUGHTS)],
    {(2, 0): [(12, (-3, -3), -1)], (0, 1): [(4, (None, 2), 2), (1, FREE, 0)], (2, 1): [(5, (0, 6), 1)]}, (1, 0))

# Where the pairs of the pattern stand.
PAIRS = [(0, hand, 1, box) for hand in range(3) for box in range(3)]
PAIRS += [(1, 0, 2, 0, 1), (1, 1, 0, 0, 1), (1, 1, 0, 1, 1), (1, 1, 2, 0, 1)]

# What else may be changed in the pattern, so that it is one still: where, and what it becomes.
ELSE = [((0, 0, 0), 4), ((0, 0, 0), -1), ((0, 2, 0), 0), ((0, 1, 2, 0), 0), ((0, 0, 2, 2), -1), ((0, 1, 3, 0), 6),
        ((0, 2, 3, 1), 1), ((0, 0, 4), True), ((0, 1, 4), False), ((1, 0, 2, 0, 0), 11), ((1, 0, 2, 0, 2), 0),
        ((1, 1, 0, 1, 0), 2), ((1, 1, 0, 1, 2), -1), ((1, 0, 2), ()), ((1, 1, 0), ((4, (None, 2), 2),)),
        ((1, 2, 1), ((1, (0, 0), 0),)), ((1, 0, 2), ((12, (-3, -3), -1),) * 2), ((2, 0), 0), ((2, 1), 1)]


def parted(pattern):
    """All of a pattern but its pairs, and its pairs."""
    parts, rows, left = pattern
    letters = [letter for to in rows for row in to for letter in row]
    other = ([(place, rest) for place, pairs, *rest in parts],
             [[[(kind, name) for kind, pair, name in row] for row in to] for to in rows], left)
    return other, [pair for part in parts for pair in part[1]] + [pair for kind, pair, name in letters]


def inside(pair, other):
    low = other[0] is None or (pair[0] is not None and pair[0] >= other[0])
    return low and (other[1] is None or (pair[1] is not None and pair[1] <= other[1]))


class IsPattern(unittest.TestCase):
    def good(self, path, value):
        with self.subTest(path=path, value=value):
            self.assertIs(is_pattern(PROGRAM, changed(PATTERN, path, value)), True)

    def wrong(self, path, value):
        with self.subTest(path=path, value=value):
            self.assertIs(is_pattern(PROGRAM, changed(PATTERN, path, value)), False)

    def test_good_ones(self):
        self.good((), PATTERN)
        self.good((), pattern_of(first(PROGRAM)))
        for path, value in ELSE:
            self.good(path, value)
        chance = random.Random(26)
        for turn in range(100):
            program = some_program(chance)
            self.assertIs(is_pattern(program, some_pattern(chance, program)), True)
            self.assertIs(is_pattern(program, pattern_of(some_world(chance, program))), True)

    def test_pairs(self):
        for path in PAIRS:
            for pair in (FREE, (0, None), (None, 0), (3, 3), (-4, 3), (0, 1), (-(10 ** 299), 10 ** 299)):
                self.good(path, pair)
            for thing in ((1, 0), (4, 3), (-3, -4), (10 ** 299, -(10 ** 299)), (True, 1), (0, True), (False, 0),
                          (0, False), (False, None), (None, True), [0, 1], [None, None], 0, 7, None, True, (), (0,),
                          (None,), (0, 0, 0), ("0", 1), (0, "1"), (0, 1.0), (0.0, 1), ((0,), (1,)), "01", {}):
                self.wrong(path, thing)

    def test_a_world_is_none(self):
        self.wrong((), first(PROGRAM))
        for thing in (None, 0, True, "abc", (), [], {}, (None, None, None), ((), (), ())):
            self.wrong((), thing)

    def test_each_tuple_is_a_tuple_of_its_length(self):
        for path in tuples_within(PATTERN):
            here = at_path(PATTERN, path)
            for value in (list(here), None, 0, True):
                self.wrong(path, value)
            if not (len(path) == 3 and path[0] == 1):
                for value in (here[:-1], here + here[-1:], ()):
                    self.wrong(path, value)

    def test_no_truth_in_the_place_of_a_number(self):
        for path in numbers_within(PATTERN):
            for value in (True, False, "0", 0.0, ()):
                self.wrong(path, value)

    def test_all_else_as_in_a_world(self):
        letter = (3, (0, 0), -1)
        for path, good, wrong in (
                ((0, 0, 0), (-1, 0, 5), (-2, 6)), ((0, 1, 0), (-1, 6), (-2, 7)), ((0, 0, 2, 1), (-1, 2), (-2, 3, None)),
                ((0, 1, 3, 0), (0, 7), (-1, 8, None)), ((0, 0, 4), (True, False), (0, 1, None)),
                ((1, 1, 0, 1, 0), (1, 12), (0, 13, None)), ((1, 1, 0, 1, 2), (-1, 2), (-2, 3, None)),
                ((1, 2, 2), ((), (letter,) * 2), ((letter,) * 3, (None,), letter)), ((2, 0), (0, 1), (-1, 2, None)),
                ((2, 1), (0, 2), (-1, 3, None))):
            for value in good:
                self.good(path, value)
            for value in wrong:
                self.wrong(path, value)

    def test_as_many_hands(self):
        two = (2, (1, 2), PROGRAM[2], (0, 1))
        self.assertIs(is_pattern(PROGRAM, pattern_of(first(two))), False)
        self.assertIs(is_pattern(two, pattern_of(first(PROGRAM))), False)


class PatternOf(unittest.TestCase):
    def test_told_out(self):
        world = world_of([mine(3, (1, -2, 10 ** 60), (0, 1, -1), (3, 1), True), mine(-1)],
                         {(0, 1): [(4, 9, 1), (5, 0, -1)], (1, 1): [(1, -6, 0)]}, (1, 2))
        self.assertEqual(pattern_of(world), world_of(
            [mine(3, ((1, 1), (-2, -2), (10 ** 60, 10 ** 60)), (0, 1, -1), (3, 1), True), mine(-1, NOUGHTS)],
            {(0, 1): [(4, (9, 9), 1), (5, (0, 0), -1)], (1, 1): [(1, (-6, -6), 0)]}, (1, 2)))

    def test_worlds_by_chance(self):
        chance = random.Random(260)
        for turn in range(100):
            program = some_program(chance)
            world, other = some_world(chance, program), some_world(chance, program)
            self.assertEqual(parted(pattern_of(world))[0], parted(world)[0])
            self.assertEqual(parted(pattern_of(world))[1], [(k, k) for k in parted(world)[1]])
            self.assertIs(lies_in(world, pattern_of(world)), True)
            self.assertIs(lies_in(other, pattern_of(world)), other == world)


def world_in(pattern, numbers):
    """The world with these numbers in the place of the pattern's pairs."""
    for path, number in zip(PAIRS, numbers, strict=True):
        pattern = changed(pattern, path, number)
    return pattern


class LiesIn(unittest.TestCase):
    NUMBERS = [2, -7, 10 ** 60, 0, 0, 0, 0, 0, 0, -3, 2, 5, 0]

    def tells(self, path, number, told):
        with self.subTest(path=path, number=number):
            world = changed(world_in(PATTERN, self.NUMBERS), path, number)
            self.assertIs(lies_in(world, PATTERN), told)

    def test_at_the_edges(self):
        for path in PAIRS:
            low, high = at_path(PATTERN, path)
            for number in (10 ** 299, -(10 ** 299), -8, -7, -3, 0, 2, 6, 9, 10):
                self.tells(path, number, (low is None or number >= low) and (high is None or number <= high))
            for bound, beyond in ((low, -1), (high, 1)):
                if bound is not None:
                    self.tells(path, bound, True)
                    self.tells(path, bound + beyond, False)

    def test_all_else_is_the_same(self):
        world = world_in(PATTERN, self.NUMBERS)
        self.assertIs(lies_in(world, PATTERN), True)
        for path, value in ELSE:
            with self.subTest(path=path, value=value):
                other = changed(PATTERN, path, value)
                self.assertIs(lies_in(world, other), False)


class Within(unittest.TestCase):
    ENDS = (None, -1, 0, 1)

    def test_pairs(self):
        pairs = [(low, high) for low, high in itertools.product(self.ENDS, repeat=2)
                 if low is None or high is None or low <= high]
        for path in (PAIRS[1], PAIRS[8], PAIRS[11]):
            for one, other in itertools.product(pairs, repeat=2):
                told = within(changed(PATTERN, path, one), changed(PATTERN, path, other))
                self.assertIs(told, inside(one, other), (path, one, other))

    def test_every_pair_counts(self):
        self.assertIs(within(PATTERN, PATTERN), True)
        for path in PAIRS:
            low, high = at_path(PATTERN, path)
            for wider in ((None if low is None else low - 1, high), (low, None if high is None else high + 1),
                          (None, high), (low, None)):
                other = changed(PATTERN, path, wider)
                self.assertIs(within(PATTERN, other), True)
                self.assertIs(within(other, PATTERN), wider == (low, high))

    def test_all_else_is_the_same(self):
        for path, value in ELSE:
            other = changed(PATTERN, path, value)
            with self.subTest(path=path, value=value):
                self.assertIs(within(PATTERN, other), False)
                self.assertIs(within(other, PATTERN), False)


class Joined(unittest.TestCase):
    def test_pairs(self):
        for one, other, told in (((1, 2), (5, 6), (1, 6)), ((5, 6), (1, 2), (1, 6)), ((1, 9), (3, 4), (1, 9)),
                                 ((None, 2), (5, 6), (None, 6)), ((1, 2), (None, 6), (None, 6)),
                                 ((1, None), (0, 6), (0, None)), ((1, 2), (0, None), (0, None)),
                                 ((None, 1), (0, None), FREE), (FREE, (3, 3), FREE), ((-3, -3), (-3, -3), (-3, -3)),
                                 ((-3, -2), (-5, -4), (-5, -2)), ((0, 1), (-1, 0), (-1, 1))):
            for path in PAIRS:
                self.assertEqual(joined(changed(PATTERN, path, one), changed(PATTERN, path, other)),
                                 changed(PATTERN, path, told))

    def test_none_where_something_else_is_not_the_same(self):
        for path, value in ELSE:
            other = changed(PATTERN, path, value)
            with self.subTest(path=path, value=value):
                self.assertIsNone(joined(PATTERN, other))
                self.assertIsNone(joined(other, PATTERN))

    def test_patterns_by_chance(self):
        chance = random.Random(261)
        for turn in range(300):
            program = some_program(chance)
            one = some_pattern(chance, program)
            other = one
            pairs = [path for path in tuples_within(one) if self.is_pair(one, path)]
            for path in pairs:
                low, high = sorted((chance.randint(-3, 3), chance.randint(-3, 3)))
                pair = chance.choice((at_path(one, path), (low, high), (None, high), (low, None)))
                other = changed(other, path, pair)
            told = joined(one, other)
            self.assertIs(is_pattern(program, told), True)
            self.assertEqual(parted(told)[0], parted(one)[0])
            for pair, left, right in zip(parted(told)[1], parted(one)[1], parted(other)[1], strict=True):
                self.assertEqual(pair[0], None if None in (left[0], right[0]) else min(left[0], right[0]))
                self.assertEqual(pair[1], None if None in (left[1], right[1]) else max(left[1], right[1]))
            self.assertTrue(within(one, told) and within(other, told))
            self.assertIs(within(one, other), all(map(inside, parted(one)[1], parted(other)[1])))

    @staticmethod
    def is_pair(pattern, path):
        of_a_hand = len(path) == 4 and path[0] == 0 and path[2] == 1
        return of_a_hand or (len(path) == 5 and path[0] == 1 and path[4] == 1)


if __name__ == "__main__":
    unittest.main()
