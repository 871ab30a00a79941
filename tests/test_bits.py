import unittest

from letterall.bits import has, many, members, set_of

SOME = (
    (0, ()),
    (1, (0,)),
    (2, (1,)),
    (5, (0, 2)),
    (0b111111, (0, 1, 2, 3, 4, 5)),
    (1 << 59, (59,)),
    ((1 << 59) | (1 << 31) | 1, (0, 31, 59)),
    ((1 << 60) - 1, tuple(range(60))),
)


class Has(unittest.TestCase):
    def test_hands_in_the_set_and_not_in_it(self):
        for some, hands in SOME:
            for hand in range(64):
                with self.subTest(some=some, hand=hand):
                    self.assertIs(has(some, hand), hand in hands)

    def test_above_its_greatest_one(self):
        self.assertIs(has(0, 0), False)
        self.assertIs(has(6, 3), False)
        self.assertIs(has(6, 1000), False)


class Members(unittest.TestCase):
    def test_rising_tuple(self):
        for some, hands in SOME:
            with self.subTest(some=some):
                told = members(some)
                self.assertIs(type(told), tuple)
                self.assertEqual(told, hands)

    def test_whole_numbers_and_no_truths(self):
        for hand in members(0b1011):
            self.assertIs(type(hand), int)


class SetOf(unittest.TestCase):
    def test_lists_and_tuples_in_any_order(self):
        for hands in ([0, 2, 5], [5, 0, 2], (2, 5, 0), (5, 2, 0)):
            with self.subTest(hands=hands):
                self.assertEqual(set_of(hands), 0b100101)

    def test_told_more_than_once(self):
        self.assertEqual(set_of([3, 3]), 8)
        self.assertEqual(set_of((1, 0, 1, 1, 0)), 3)

    def test_of_none(self):
        for hands in ([], ()):
            told = set_of(hands)
            self.assertIs(type(told), int)
            self.assertEqual(told, 0)

    def test_of_the_members_is_the_set_again(self):
        for some in list(range(256)) + [some for some, hands in SOME]:
            with self.subTest(some=some):
                self.assertEqual(set_of(members(some)), some)
                self.assertEqual(set_of(list(reversed(members(some)))), some)

    def test_the_list_stays_as_it_was(self):
        hands = [4, 1, 4, 0]
        set_of(hands)
        self.assertEqual(hands, [4, 1, 4, 0])


class Many(unittest.TestCase):
    def test_how_many(self):
        for some, hands in SOME:
            with self.subTest(some=some):
                told = many(some)
                self.assertIs(type(told), int)
                self.assertEqual(told, len(hands))


if __name__ == "__main__":
    unittest.main()
