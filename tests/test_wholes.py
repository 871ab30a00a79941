import unittest

from letterall.wholes import are_between, is_between, is_tuple_of, is_whole


class Wholes(unittest.TestCase):
    def test_whole_numbers(self):
        for thing in (0, 1, -1, 10 ** 59, -(10 ** 59)):
            self.assertIs(is_whole(thing), True)

    def test_truths_and_other_things_are_none(self):
        for thing in (True, False, None, "1", 1.0, (1,), [1]):
            with self.subTest(thing=thing):
                self.assertIs(is_whole(thing), False)
                self.assertIs(is_between(thing, 0, 5), False)

    def test_bounds(self):
        self.assertEqual([is_between(k, 2, 4) for k in (1, 2, 3, 4, 5)], [False, True, True, True, False])

    def test_tuples(self):
        self.assertIs(is_tuple_of((1, 2), 2), True)
        for thing in ((1,), (1, 2, 3), [1, 2], "ab", None):
            with self.subTest(thing=thing):
                self.assertIs(is_tuple_of(thing, 2), False)

    def test_tuples_within_bounds(self):
        self.assertIs(are_between((0, 5), 2, 0, 5), True)
        for thing in ((0, 6), (-1, 5), (0, True), (0,), [0, 5]):
            with self.subTest(thing=thing):
                self.assertIs(are_between(thing, 2, 0, 5), False)


if __name__ == "__main__":
    unittest.main()
