import itertools
import unittest

from letterall.renamings import after, is_renaming, keeping, same, undone
from tests.samples import permutations_keeping, with_truths

BELLS = ((("bell",),),) * 6


class Renamings(unittest.TestCase):
    def test_same(self):
        self.assertEqual([same(count) for count in range(1, 7)],
                         [(0,), (0, 1), (0, 1, 2), (0, 1, 2, 3), (0, 1, 2, 3, 4), (0, 1, 2, 3, 4, 5)])

    def test_after(self):
        self.assertEqual(after((1, 2, 0), (0, 2, 1)), (2, 1, 0))
        self.assertEqual(after((0, 2, 1), (1, 2, 0)), (1, 0, 2))
        for count in range(1, 5):
            for p in itertools.permutations(range(count)):
                self.assertEqual(after(p, same(count)), p)
                self.assertEqual(after(same(count), p), p)
                for q in itertools.permutations(range(count)):
                    self.assertEqual(list(after(p, q)), [q[p[hand]] for hand in range(count)])
        self.assertEqual(after((5, 0, 1, 2, 3, 4), (1, 0, 3, 2, 5, 4)), (4, 1, 0, 3, 2, 5))

    def test_undone(self):
        self.assertEqual(undone((1, 2, 0)), (2, 0, 1))
        self.assertEqual(undone((0,)), (0,))
        for count in range(1, 7):
            for p in itertools.permutations(range(count)):
                self.assertEqual([undone(p)[p[hand]] for hand in range(count)], list(range(count)))
                self.assertEqual(after(p, undone(p)), same(count))
                self.assertEqual(after(undone(p), p), same(count))

    def test_they_are_tuples(self):
        for told in (same(3), after((1, 0), (1, 0)), undone((1, 0))):
            self.assertIs(type(told), tuple)


class IsRenaming(unittest.TestCase):
    def test_good_ones(self):
        for count in range(1, 7):
            for p in itertools.permutations(range(count)):
                self.assertIs(is_renaming(p, count), True)

    def wrong(self, thing, count):
        with self.subTest(thing=thing, count=count):
            self.assertIs(is_renaming(thing, count), False)

    def test_a_hand_more_or_fewer(self):
        for count in range(1, 6):
            self.wrong(same(count + 1), count)
            self.wrong(same(count), count + 1)
        self.wrong((), 1)

    def test_all_tuples_of_few_numbers(self):
        for count in range(1, 4):
            for thing in itertools.product(range(-2, count + 2), repeat=count):
                self.assertIs(is_renaming(thing, count), sorted(thing) == list(range(count)))

    def test_a_hand_twice(self):
        for thing in ((0, 0), (1, 1), (0, 1, 1), (2, 1, 2), (0, 1, 2, 3, 4, 4)):
            self.wrong(thing, len(thing))

    def test_a_truth_in_the_place_of_a_number(self):
        for p in itertools.permutations(range(4)):
            for thing in with_truths(p):
                self.wrong(thing, 4)
        self.wrong((False,), 1)
        self.wrong((False, True), 2)

    def test_other_things(self):
        for thing in (None, "", "01", 0, 1, True, [0, 1], {0: 1, 1: 0}, (0, "1"), (0, None), (0, 1.0), (0, (1,)),
                      ([0], [1]), ({}, {}), "ab", (0, 2), (-1, 0), (1, 2)):
            self.wrong(thing, 2)


class Keeping(unittest.TestCase):
    def test_told_out(self):
        self.assertEqual(keeping((1, (0, 0), BELLS[:2], (0, 0, 1))), [(0, 1, 2), (1, 0, 2)])
        self.assertEqual(keeping((1, (0, 0), BELLS[:2], (0, 1, 1))), [(0, 1, 2), (0, 2, 1)])
        self.assertEqual(keeping((1, (0, 0), BELLS, (2,))), [(0,)])
        self.assertEqual(keeping((1, (0, 0), BELLS, (0, 0, 3, 3))),
                         [(0, 1, 2, 3), (0, 1, 3, 2), (1, 0, 2, 3), (1, 0, 3, 2)])

    def test_just_those_that_keep_roles_rising(self):
        for count in range(1, 7):
            for hands in itertools.combinations_with_replacement(range(3), count):
                told = keeping((1, (0, 0), BELLS[:3], hands))
                self.assertIs(type(told), list)
                self.assertEqual(told, permutations_keeping(hands))
                self.assertEqual(told, sorted(told))

    def test_the_list_is_the_askers_own(self):
        program = (1, (0, 0), BELLS, (1, 1, 1))
        told = keeping(program)
        told.clear()
        self.assertEqual(len(keeping(program)), 6)


if __name__ == "__main__":
    unittest.main()
