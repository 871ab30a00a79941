import itertools
import random
import unittest

from letterall.claims import bit_of, bit_over, blind, broken, broken_over, look_over_claim
from letterall.errors import NoClaim
from letterall.worlds import first
from tests.samples import (at_path, changed, mine, numbers_within, some_claim, some_program, some_world, tuples_within,
                           with_truths, world_of)

PROGRAM = (2, (0, 0), ((("bell",),) * 3, (("bell",),) * 3), (0, 1, 1))
YES = ("letters", 1, 0, None)
NO = ("letters", 1, 1, None)
TESTS = {True: YES, False: NO}

# Over the pattern below these are told True, False and None.
OVER = {True: ("count", 0, ("number", 0, 0, 9), 1, 1), False: ("count", 0, ("number", 0, 10, None), 1, 1),
        None: ("count", 0, ("number", 0, 0, 0), 1, 1)}
PATTERN = world_of([mine(numbers=((0, 9), (0, 0), (0, 0))), mine(numbers=((0, 0),) * 3), mine(numbers=((0, 0),) * 3)])


class AtWorlds(unittest.TestCase):
    WORLD = first(PROGRAM)

    def test_never(self):
        for holds, bit in itertools.product((True, False), repeat=2):
            claim = ("never", TESTS[holds])
            self.assertIs(bit_of(PROGRAM, claim, self.WORLD, bit), False)
            self.assertIs(broken(PROGRAM, claim, self.WORLD, bit), holds)

    def test_behind(self):
        for p, q, bit in itertools.product((True, False), repeat=3):
            claim = ("behind", TESTS[p], TESTS[q])
            self.assertIs(bit_of(PROGRAM, claim, self.WORLD, bit), q or bit)
            self.assertIs(broken(PROGRAM, claim, self.WORLD, bit), p and not bit)

    def test_comes(self):
        for p, q, bit in itertools.product((True, False), repeat=3):
            claim = ("comes", TESTS[p], TESTS[q])
            self.assertIs(bit_of(PROGRAM, claim, self.WORLD, bit), not q and (p or bit))
            self.assertIs(broken(PROGRAM, claim, self.WORLD, bit), False)

    def test_by_the_world(self):
        claim = ("behind", ("count", 0, ("at", 2), 1, None), ("count", 1, ("at", 1), 2, 2))
        for place, others, bit, breaks in ((0, 0, False, False), (2, 0, False, True), (2, 1, True, False),
                                           (0, 1, True, False)):
            world = world_of([mine(place), mine(others), mine(others)])
            self.assertIs(bit_of(PROGRAM, claim, world, False), bit)
            self.assertIs(broken(PROGRAM, claim, world, bit), breaks)


class OverPatterns(unittest.TestCase):
    def test_never(self):
        for p, bit in itertools.product((True, False, None), (True, False)):
            claim = ("never", OVER[p])
            self.assertIs(bit_over(PROGRAM, claim, PATTERN, bit), False)
            self.assertIs(broken_over(PROGRAM, claim, PATTERN, bit), p is not False)

    def test_behind(self):
        for p, q, bit in itertools.product((True, False, None), (True, False, None), (True, False)):
            claim = ("behind", OVER[p], OVER[q])
            self.assertIs(bit_over(PROGRAM, claim, PATTERN, bit), bit or q is True)
            self.assertIs(broken_over(PROGRAM, claim, PATTERN, bit), p is not False and not bit)


ALL_MARKS = (("bell",), ("name", 0), ("name", 1), ("name", 2), ("number", 0), ("number", 1), ("number", 2),
             ("set", 0), ("set", 1))
MARKED = {("number", 1, 0, 5): ("number", 1), ("number", 0, None, None): ("number", 0), ("has", 1): ("name", 1),
          ("has", 2): ("name", 2), ("many", 0, 3): ("set", 0), ("many", 1, 0): ("set", 1), ("bell",): ("bell",)}


def count(role, test):
    return ("count", role, test, 1, None)


def wrapped(test):
    """A test of a hand by itself, and within others in every place."""
    other = ("at", 60)
    return [test, ("not", test), ("both", test, other), ("both", other, test), ("either", test, other),
            ("either", other, test), ("not", ("both", other, ("either", ("not", test), other)))]


def claims_with(test):
    """Claims with a test in every place."""
    return [("never", test), ("behind", test, YES), ("behind", YES, test), ("comes", test, YES), ("comes", YES, test),
            ("never", ("not", test)), ("never", ("both", test, YES)), ("never", ("both", YES, test)),
            ("never", ("either", test, YES)), ("behind", YES, ("not", ("either", YES, ("both", YES, test))))]


class Blind(unittest.TestCase):
    def test_places(self):
        for test in wrapped(("at", 4)):
            for claim in claims_with(count(1, test)):
                for places, told in (((), True), ((4,), False), ((3, 5), True), ((3, 4, 5), False), ((0,), True),
                                     ([4, 9], False), ([5], True)):
                    with self.subTest(claim=claim, places=places):
                        self.assertIs(blind(claim, 1, places, ()), told)
                        self.assertIs(blind(claim, 1, places, ALL_MARKS), told)
                        self.assertIs(blind(claim, 0, places, ALL_MARKS), True)

    def test_marks(self):
        for within, mark in MARKED.items():
            others = tuple(each for each in ALL_MARKS if each != mark)
            for test in wrapped(within):
                for claim in claims_with(count(1, test)):
                    with self.subTest(claim=claim):
                        self.assertIs(blind(claim, 1, (0, 1, 2, 3), (mark,)), False)
                        self.assertIs(blind(claim, 1, (), ALL_MARKS), False)
                        self.assertIs(blind(claim, 1, (0, 1, 2, 3), others), True)
                        self.assertIs(blind(claim, 1, (), ()), True)
                        self.assertIs(blind(claim, 0, (0, 1, 2, 3), ALL_MARKS), True)

    def test_fallen_and_letters(self):
        for claim in claims_with(count(1, ("fallen",))) + claims_with(("letters", 3, 0, 1)):
            self.assertIs(blind(claim, 1, tuple(range(60)), ALL_MARKS), True)

    def test_several_counts(self):
        claim = ("behind", ("both", count(0, ("at", 1)), count(1, ("bell",))),
                 ("either", count(1, ("at", 2)), count(0, ("has", 0))))
        for role, places, marks, told in ((0, (1,), (), False), (0, (2,), (), True), (1, (1,), (), True),
                                          (1, (2,), (), False), (0, (), (("bell",),), True),
                                          (1, (), (("bell",),), False), (0, (), (("name", 0),), False),
                                          (1, (), (("name", 0),), True), (0, (0, 2), (("name", 1),), True),
                                          (1, (0, 1), (("number", 0),), True)):
            with self.subTest(role=role, places=places, marks=marks):
                self.assertIs(blind(claim, role, places, marks), told)

    def test_of_a_box_the_words_are_kept_apart(self):
        self.assertIs(blind(("never", count(0, ("has", 1))), 0, (1,), (("number", 1), ("set", 1))), True)
        self.assertIs(blind(("never", count(0, ("number", 1, 0, 0))), 0, (1, 0), (("name", 1), ("set", 1))), True)
        self.assertIs(blind(("never", count(0, ("many", 1, 0))), 0, (1, 0), (("number", 1), ("name", 1))), True)
        self.assertIs(blind(("never", count(0, ("at", 1))), 0, (), ALL_MARKS), True)


GOOD = ("behind",
        ("both", ("count", 1, ("both", ("number", 2, -5, None), ("either", ("at", 60), ("many", 1, 6))), 0, 6),
         ("not", ("letters", 12, 0, None))),
        ("either", ("count", 0, ("not", ("either", ("has", 2), ("both", ("bell",), ("fallen",)))), None, None),
         ("letters", 1, None, 10 ** 59)))


class LookOver(unittest.TestCase):
    def good(self, claim):
        with self.subTest(claim=claim):
            self.assertIsNone(look_over_claim(PROGRAM, claim))

    def wrong(self, claim):
        with self.subTest(claim=claim):
            with self.assertRaises(NoClaim):
                look_over_claim(PROGRAM, claim)

    def edges(self, make, good, wrong):
        for value in good:
            self.good(("never", make(value)))
        for value in wrong:
            self.wrong(("never", make(value)))

    def test_good_ones(self):
        for claim in (GOOD, ("never", YES), ("comes", YES, NO), ("behind", NO, NO)):
            self.good(claim)
        chance = random.Random(25)
        for turn in range(300):
            self.good(some_claim(chance, 2))

    def test_eighty_tests(self):
        deep = YES
        for turn in range(79):
            deep = ("not", deep)
        self.good(("never", deep))
        self.wrong(("never", changed(deep, (1,) * 79 + (1,), 0)))

    def test_bounds(self):
        other = (None, "1", 1.0, (), (1,), [1], True, False, 10 ** 59)
        self.edges(lambda v: count(0, ("at", v)), (0, 1, 60), (-1, 61, *other))
        self.edges(lambda v: count(0, ("number", v, 0, 0)), (0, 1, 2), (-1, 3, *other))
        whole_or_none = (None, 0, 1, -1, 10 ** 59, -(10 ** 59))
        not_whole = ("1", 1.0, (), (1,), [1], True, False)
        self.edges(lambda v: count(0, ("number", 0, v, 0)), whole_or_none, not_whole)
        self.edges(lambda v: count(0, ("number", 0, 0, v)), whole_or_none, not_whole)
        self.edges(lambda v: count(0, ("has", v)), (0, 1, 2), (-1, 3, *other))
        self.edges(lambda v: count(0, ("many", v, 1)), (0, 1), (-1, 2, *other))
        self.edges(lambda v: count(0, ("many", 1, v)), (0, 1, 6), (-1, 7, *other))
        self.edges(lambda v: count(v, ("bell",)), (0, 1), (-1, 2, *other))
        for role in (0, 1):
            self.edges(lambda v: ("count", role, ("bell",), v, 3), (None, 0, 1, 6), (-1, 7, *not_whole, 10 ** 59))
            self.edges(lambda v: ("count", role, ("bell",), 3, v), (None, 0, 1, 6), (-1, 7, *not_whole, 10 ** 59))
        self.edges(lambda v: ("letters", v, 0, 0), (1, 2, 12), (0, -1, 13, *other))
        self.edges(lambda v: ("letters", 1, v, 0), (None, 0, 1, 7, 10 ** 59), (-1, *not_whole, -(10 ** 59)))
        self.edges(lambda v: ("letters", 1, 0, v), (None, 0, 1, 7, 10 ** 59), (-1, *not_whole, -(10 ** 59)))

    def test_roles_of_the_program(self):
        three = (2, (0, 0), ((), (), ()), (0,))
        claim = ("behind", YES, ("not", ("both", YES, count(2, ("bell",)))))
        self.wrong(claim)
        self.assertIsNone(look_over_claim(three, claim))

    def test_each_tuple_is_a_tuple_of_its_length(self):
        for path in tuples_within(GOOD):
            here = at_path(GOOD, path)
            for value in (list(here), here[:-1], here + (0,), here + here[-1:], (), None, 0, "bell", "never", True,
                          here[1:], (here,)):
                self.wrong(changed(GOOD, path, value))

    def test_another_word(self):
        for path in tuples_within(GOOD):
            here = at_path(GOOD, path)
            for word in ("", "no", "Never", None, 0, True, ("never",), ["never"], {}):
                self.wrong(changed(GOOD, path, (word,) + here[1:]))

    def test_no_truth_in_the_place_of_a_number(self):
        for path in numbers_within(GOOD):
            for value in (True, False, "1", 1.0):
                self.wrong(changed(GOOD, path, value))
        chance = random.Random(26)
        for turn in range(100):
            for wrong in with_truths(some_claim(chance, 2)):
                self.wrong(wrong)

    def test_tests_of_a_hand_and_tests_are_two_sorts(self):
        hand_tests = (("at", 1), ("number", 0, 0, 0), ("has", 1), ("many", 1, 1), ("bell",), ("fallen",))
        tests = (YES, count(0, ("bell",)))
        for test in hand_tests:
            self.good(("never", count(0, test)))
            for claim in claims_with(test) + claims_with(("not", test)):
                self.wrong(claim)
        for test in tests:
            for within in wrapped(test):
                self.wrong(("never", count(0, within)))
            self.wrong(test)
        self.wrong(("never", ("never", YES)))
        self.wrong(("not", YES))
        self.wrong(("both", YES, YES))

    def test_other_things(self):
        for thing in (None, 0, True, "never", "", (), [], {}, ("never",), ["never", YES], ("never", list(YES)),
                      ("never", YES, YES), ("behind", YES), ("comes", YES), ("behind", YES, NO, NO),
                      ("always", YES), ("never", None), ("never", "letters"), (YES,)):
            self.wrong(thing)

    def test_claims_change_nothing(self):
        chance = random.Random(27)
        for turn in range(50):
            program = some_program(chance)
            claim, world = some_claim(chance, 3), some_world(chance, program)
            for bit in (True, False):
                self.assertIn(bit_of(program, claim, world, bit), (True, False))
                self.assertIn(broken(program, claim, world, bit), (True, False))


if __name__ == "__main__":
    unittest.main()
