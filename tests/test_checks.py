import itertools
import random
import unittest

from letterall.checks import holds, perhaps
from letterall.worlds import first
from tests.samples import mine, some_hand_test, some_pattern, some_program, some_test, some_world, world_of

# Two hands of role 0, one of role 1, none of role 2.
PROGRAM = (3, (0, 0), ((("bell",),) * 60, (("bell",),) * 60, ()), (0, 0, 1))

YES = ("letters", 1, 0, None)
NO = ("letters", 1, 1, None)
HAND_YES = ("not", ("bell",))
HAND_NO = ("bell",)


def of_hand(test):
    """The test that hand 2, alone in its role, passes a test of a hand."""
    return ("count", 1, test, 1, None)


def world_with(part, letters=()):
    return world_of([mine(), mine(), part], letters)


def pattern_with(pair, box=0):
    numbers = tuple(pair if each == box else (0, 0) for each in range(3))
    return world_with(mine(numbers=numbers))


def own_pattern(world):
    parts, rows, left = world
    parts = tuple((place, tuple((k, k) for k in numbers), *rest) for place, numbers, *rest in parts)
    rows = tuple(tuple(tuple((kind, (k, k), name) for kind, k, name in row) for row in rows_to) for rows_to in rows)
    return (parts, rows, left)


class OfAHand(unittest.TestCase):
    def tells(self, part, test, told):
        with self.subTest(part=part, test=test):
            world = world_with(part)
            self.assertIs(holds(PROGRAM, world, of_hand(test)), told)
            self.assertIs(holds(PROGRAM, world, of_hand(("not", test))), not told)
            self.assertIs(perhaps(PROGRAM, own_pattern(world), of_hand(test)), told)

    def test_at(self):
        for place, asked in itertools.product((-1, 0, 1, 59, 60), (0, 1, 59, 60)):
            self.tells(mine(place), ("at", asked), place == asked)

    def test_number(self):
        for box in range(3):
            for number, low, high, told in (
                    (5, 5, 5, True), (5, 4, 6, True), (5, 5, 6, True), (5, 4, 5, True), (5, 6, 9, False),
                    (5, 1, 4, False), (5, None, None, True), (5, None, 5, True), (5, None, 4, False),
                    (5, 5, None, True), (5, 6, None, False), (5, 6, 4, False), (5, 5, 4, False), (5, 6, 5, False),
                    (0, 0, 0, True), (-3, -3, -3, True), (-3, -2, 0, False), (-3, None, -4, False),
                    (10 ** 59, None, 10 ** 59 - 1, False), (10 ** 59, 10 ** 59, None, True)):
                numbers = tuple(number if each == box else 77 for each in range(3))
                self.tells(mine(numbers=numbers), ("number", box, low, high), told)

    def test_has(self):
        for box, name in itertools.product(range(3), range(-1, 3)):
            names = tuple(name if each == box else (-1 if name >= 0 else 1) for each in range(3))
            self.tells(mine(names=names), ("has", box), name >= 0)

    def test_many(self):
        for box, some, amount in itertools.product(range(2), range(8), range(7)):
            sets = tuple(some if each == box else 7 - some for each in range(2))
            self.tells(mine(sets=sets), ("many", box, amount), bin(some).count("1") >= amount)

    def test_bell(self):
        self.tells(mine(bell=True), ("bell",), True)
        self.tells(mine(bell=False), ("bell",), False)

    def test_fallen(self):
        self.tells(mine(-1), ("fallen",), True)
        self.tells(mine(0), ("fallen",), False)
        self.tells(mine(60), ("fallen",), False)

    def test_not_both_either(self):
        for one, other in itertools.product((True, False), repeat=2):
            t, u = (HAND_YES if each else HAND_NO for each in (one, other))
            self.tells(mine(), ("not", t), not one)
            self.tells(mine(), ("both", t, u), one and other)
            self.tells(mine(), ("either", t, u), one or other)
        self.tells(mine(), ("both", ("either", HAND_NO, HAND_YES), ("not", ("both", HAND_YES, HAND_NO))), True)


class OfAWorld(unittest.TestCase):
    def tells(self, world, test, told):
        with self.subTest(test=test):
            self.assertIs(holds(PROGRAM, world, test), told)
            self.assertIs(perhaps(PROGRAM, own_pattern(world), test), told)

    def test_count(self):
        program = (1, (0, 0), ((("bell",),) * 9, ()), (0,) * 6)
        for there in range(7):
            world = world_of([mine(3)] * there + [mine(4)] * (6 - there))
            for low, high in itertools.product([None, *range(7)], repeat=2):
                told = (low is None or there >= low) and (high is None or there <= high)
                for each, perhaps_or in ((world, holds), (own_pattern(world), perhaps)):
                    self.assertIs(perhaps_or(program, each, ("count", 0, ("at", 3), low, high)), told)

    def test_count_of_its_role_alone(self):
        world = world_of([mine(2), mine(2), mine(2)])
        self.tells(world, ("count", 0, ("at", 2), 2, 2), True)
        self.tells(world, ("count", 1, ("at", 2), 1, 1), True)
        self.tells(world, ("count", 2, ("at", 2), 0, 0), True)
        self.tells(world, ("count", 2, ("at", 2), 1, None), False)

    def test_count_of_fallen_hands_too(self):
        world = world_of([mine(-1), mine(-1), mine()])
        self.tells(world, ("count", 0, ("fallen",), 2, 2), True)
        self.tells(world, ("count", 0, ("not", ("bell",)), 2, 2), True)
        self.tells(world, ("count", 0, ("number", 0, 0, 0), 2, 2), True)

    def test_letters(self):
        letters = {(0, 1): [(1, 5, 0), (12, 0, -1), (1, 5, 0)], (1, 1): [(1, 7, 2)], (2, 0): [(12, 0, 0)]}
        world = world_with(mine(), letters)
        for kind, there in ((1, 3), (12, 2), (2, 0), (11, 0)):
            for low, high in itertools.product([None, *range(5)], repeat=2):
                told = (low is None or there >= low) and (high is None or there <= high)
                self.tells(world, ("letters", kind, low, high), told)
        self.tells(world, ("letters", 1, 0, 10 ** 59), True)
        self.tells(world, ("letters", 1, 10 ** 59, None), False)

    def test_not_both_either(self):
        world = first(PROGRAM)
        for one, other in itertools.product((True, False), repeat=2):
            p, q = (YES if each else NO for each in (one, other))
            self.tells(world, p, one)
            self.tells(world, ("not", p), not one)
            self.tells(world, ("both", p, q), one and other)
            self.tells(world, ("either", p, q), one or other)

    def test_eighty_tests(self):
        deep, deep_hand = YES, HAND_YES
        for turn in range(78):
            deep, deep_hand = ("not", deep), ("not", deep_hand)
        self.tells(first(PROGRAM), deep, True)
        self.tells(first(PROGRAM), of_hand(deep_hand), True)


class OverPatterns(unittest.TestCase):
    def tells(self, pattern, test, told):
        with self.subTest(pattern=pattern[0], test=test):
            self.assertIs(perhaps(PROGRAM, pattern, test), told)

    def test_number(self):
        for pair, low, high, told in (
                ((3, 5), 3, 5, True), ((3, 5), 2, 6, True), ((3, 5), 4, 5, None), ((3, 5), 3, 4, None),
                ((3, 5), 4, 4, None), ((3, 5), 5, 9, None), ((3, 5), 6, 9, False), ((3, 5), 0, 3, None),
                ((3, 5), 0, 2, False), ((3, 5), None, None, True), ((3, 5), None, 5, True), ((3, 5), None, 4, None),
                ((3, 5), None, 3, None), ((3, 5), None, 2, False), ((3, 5), 3, None, True), ((3, 5), 4, None, None),
                ((3, 5), 5, None, None), ((3, 5), 6, None, False), ((3, 5), 5, 3, False), ((3, 5), 4, 3, False),
                ((3, 5), 6, 2, False), ((None, 5), None, 5, True), ((None, 5), None, 6, True),
                ((None, 5), None, 4, None), ((None, 5), 5, None, None), ((None, 5), 6, None, False),
                ((None, 5), 0, 5, None), ((None, 5), 6, 9, False), ((None, 5), None, None, True),
                ((None, 5), 5, 4, False), ((3, None), 3, None, True), ((3, None), 2, None, True),
                ((3, None), 4, None, None), ((3, None), None, 3, None), ((3, None), None, 2, False),
                ((3, None), 3, 9, None), ((3, None), 0, 2, False), ((3, None), None, None, True),
                ((3, None), 9, 8, False), ((None, None), None, None, True), ((None, None), 0, None, None),
                ((None, None), None, 0, None), ((None, None), 0, 0, None), ((None, None), 5, 3, False),
                ((None, None), 1, 0, False), ((4, 4), 4, 4, True), ((4, 4), 5, 4, False), ((4, 4), 4, 3, False)):
            for box in range(3):
                self.tells(pattern_with(pair, box), of_hand(("number", box, low, high)), told)

    def test_numbers_against_each_number(self):
        ends = (None, -2, -1, 0, 1, 2)
        for low, high, left, right in itertools.product(ends, repeat=4):
            if low is not None and high is not None and low > high:
                continue
            # Beyond -9 and 9 no bound lies, so these stand for all numbers there.
            within = [(left is None or k >= left) and (right is None or k <= right) for k in range(-9, 10)
                      if (low is None or k >= low) and (high is None or k <= high)]
            told = True if all(within) else (None if any(within) else False)
            self.tells(pattern_with((low, high)), of_hand(("number", 0, left, right)), told)

    THREE = {True: ("number", 0, 0, 9), False: ("number", 0, 10, None), None: ("number", 0, 0, 0)}
    PATTERN = pattern_with((0, 9))

    def both_sorts(self, word, answers, told):
        tests = [self.THREE[each] for each in answers]
        self.tells(self.PATTERN, of_hand((word, *tests)), told)
        self.tells(self.PATTERN, (word, *[of_hand(test) for test in tests]), told)

    def test_not(self):
        for one, told in ((True, False), (False, True), (None, None)):
            self.both_sorts("not", (one,), told)

    def test_both(self):
        for one, other in itertools.product((True, False, None), repeat=2):
            told = False if False in (one, other) else (None if None in (one, other) else True)
            self.both_sorts("both", (one, other), told)

    def test_either(self):
        for one, other in itertools.product((True, False, None), repeat=2):
            told = True if True in (one, other) else (None if None in (one, other) else False)
            self.both_sorts("either", (one, other), told)

    def test_what_is_told_hangs_on_the_form(self):
        maybe = of_hand(self.THREE[None])
        self.tells(self.PATTERN, ("both", maybe, ("not", maybe)), None)
        self.tells(self.PATTERN, ("either", maybe, ("not", maybe)), None)

    def test_count(self):
        program = (1, (0, 0), ((("bell",),), ()), (0,) * 4)
        parts = {True: mine(numbers=((1, 2),) * 3), False: mine(numbers=((5, None),) * 3),
                 None: mine(numbers=((2, 4),) * 3)}
        for answers in itertools.product((True, False, None), repeat=4):
            pattern = world_of([parts[each] for each in answers])
            least, most = answers.count(True), 4 - answers.count(False)
            for low, high in itertools.product((None, 0, 1, 2, 3, 4, 5, 6), repeat=2):
                within = [(low is None or k >= low) and (high is None or k <= high) for k in range(least, most + 1)]
                told = True if all(within) else (None if any(within) else False)
                self.assertIs(perhaps(program, pattern, ("count", 0, ("number", 1, 0, 3), low, high)), told)

    def test_letters_and_all_others_as_at_its_worlds(self):
        letters = {(0, 1): [(1, (None, None), 0), (1, (3, 9), 0)], (1, 2): [(2, (0, 0), 0)]}
        numbers = ((None, None),) * 3
        pattern = world_with(mine(4, numbers, (-1, 2, -1), (5, 0), True), letters)
        for test, told in ((("letters", 1, 2, 2), True), (("letters", 1, 3, None), False),
                           (("letters", 1, None, 1), False), (("letters", 2, 1, 1), True), (of_hand(("at", 4)), True),
                           (of_hand(("at", 5)), False), (of_hand(("has", 1)), True), (of_hand(("has", 0)), False),
                           (of_hand(("many", 0, 2)), True), (of_hand(("many", 0, 3)), False),
                           (of_hand(("bell",)), True), (of_hand(("fallen",)), False)):
            self.tells(pattern, test, told)


def low_end(pair):
    """The least number of a pair, or one far below where there is none."""
    if pair[0] is None:
        return -8 if pair[1] is None else pair[1] - 8
    return pair[0]


def high_end(pair):
    if pair[1] is None:
        return 8 if pair[0] is None else pair[0] + 8
    return pair[1]


def at_ends(pattern, end):
    """The world in the pattern with this end of each of its pairs."""
    parts, rows, left = pattern
    return (tuple((place, tuple(end(pair) for pair in numbers), *rest) for place, numbers, *rest in parts),
            tuple(tuple(tuple((kind, end(pair), name) for kind, pair, name in row) for row in to) for to in rows),
            left)


class ManyTests(unittest.TestCase):
    def test_what_is_told_over_a_pattern_holds_at_its_worlds(self):
        chance = random.Random(22)
        seen = {True: 0, False: 0, None: 0}
        for turn in range(2000):
            program = some_program(chance)
            pattern, test = some_pattern(chance, program), some_test(chance, 3)
            told = perhaps(program, pattern, test)
            seen[told] += 1
            for world in (at_ends(pattern, low_end), at_ends(pattern, high_end)):
                self.assertIn(holds(program, world, test), (True, False) if told is None else (told,))
        self.assertTrue(all(amount > 30 for amount in seen.values()), seen)

    def test_a_worlds_own_pattern(self):
        chance = random.Random(23)
        for turn in range(500):
            program = some_program(chance)
            world, test = some_world(chance, program), some_test(chance, 3)
            self.assertIs(perhaps(program, own_pattern(world), test), holds(program, world, test))

    def test_every_word_comes_by(self):
        chance = random.Random(24)
        words = {some_hand_test(chance)[0] for turn in range(300)}
        self.assertEqual(len(words), 9)


if __name__ == "__main__":
    unittest.main()
