import random
import unittest

from letterall.deeds import do, moves
from letterall.worlds import first, is_world, part, row
from tests.samples import at_path, changed, numbers_within, tuples_within

TAKE = ("take", -1, ((4, 0, 1, 2, 3), (5, 1, 1, 2, 0), (0, 0, 0, 1, 3)))
SENDER = (("pick", 0, 1), ("choose", 1, 3), ("send", 0, 4, 1, 0), ("send", 0, 5, 1, 1), ("go", 0))
TAKER = (("bell",), ("all", 0, 0), TAKE, ("out", 2, 0, 2), ("join", 1, 2), ("go", 2))
PROGRAM = (2, (1, 2), (SENDER, TAKER), (0, 1, 1))

BLANK = (0, (0, 0, 0), (-1, -1, -1), (0, 0), False)
NO_ROWS = (((), (), ()), ((), (), ()), ((), (), ()))

# The letters to hand 1 are those from hand 0, none from itself, those from hand 2.
WORLD = (
    (
        (3, (2, -7, 10 ** 60), (1, -1, 0), (5, 0), False),
        (6, (0, 0, 0), (-1, 2, 2), (7, 1), True),
        (-1, (0, 0, 0), (-1, -1, -1), (0, 0), False),
    ),
    (
        ((), (), ((12, -3, -1),)),
        (((4, 2, 2), (1, 0, 0)), (), ((5, 0, 1),)),
        ((), (), ()),
    ),
    (1, 0),
)


class First(unittest.TestCase):
    def test_first(self):
        self.assertEqual(first(PROGRAM), ((BLANK, BLANK, BLANK), NO_ROWS, (1, 2)))

    def test_first_of_one_hand_without_steps(self):
        world = first((1, (0, 0), ((),), (0,)))
        self.assertEqual(world, ((BLANK,), (((),),), (0, 0)))
        self.assertIs(world[0][0][4], False)

    def test_first_is_a_world(self):
        self.assertIs(is_world(PROGRAM, first(PROGRAM)), True)


class Told(unittest.TestCase):
    def test_part(self):
        for hand in range(3):
            self.assertEqual(part(WORLD, hand), WORLD[0][hand])

    def test_row(self):
        self.assertEqual(row(WORLD, 0, 1), ((4, 2, 2), (1, 0, 0)))
        self.assertEqual(row(WORLD, 2, 1), ((5, 0, 1),))
        self.assertEqual(row(WORLD, 2, 0), ((12, -3, -1),))
        self.assertEqual(row(WORLD, 1, 0), ())
        self.assertEqual(row(WORLD, 1, 1), ())
        self.assertEqual(row(WORLD, 0, 2), ())


class IsWorld(unittest.TestCase):
    def good(self, path, value):
        with self.subTest(path=path, value=value):
            self.assertIs(is_world(PROGRAM, changed(WORLD, path, value)), True)

    def wrong(self, path, value):
        with self.subTest(path=path, value=value):
            self.assertIs(is_world(PROGRAM, changed(WORLD, path, value)), False)

    def edges(self, path, good, wrong):
        for value in good:
            self.good(path, value)
        for value in wrong:
            self.wrong(path, value)

    def test_the_world_itself(self):
        self.assertIs(is_world(PROGRAM, WORLD), True)

    def test_worlds_that_moves_come_to(self):
        chance = random.Random(7)
        seen = []
        for walk in range(60):
            world = first(PROGRAM)
            for made in range(40):
                seen.append(world)
                told = moves(PROGRAM, world)
                if not told:
                    break
                world = do(PROGRAM, world, chance.choice(told))
        for world in seen:
            self.assertIs(is_world(PROGRAM, world), True)
        self.assertTrue(any(world[2] == (0, 0) for world in seen))
        self.assertTrue(any(part(world, hand)[0] == -1 for world in seen for hand in range(3)))
        self.assertTrue(any(len(row(world, 0, 1)) == 2 for world in seen))
        self.assertTrue(any(part(world, 1)[0] == 5 for world in seen))

    def test_other_things(self):
        for thing in (None, 0, True, "abc", (), [], {}, (None, None, None), ((), (), ())):
            self.wrong((), thing)

    def test_each_tuple_is_a_tuple_of_its_length(self):
        for path in tuples_within(WORLD):
            here = at_path(WORLD, path)
            self.wrong(path, list(here))
            self.wrong(path, None)
            self.wrong(path, 0)
            is_row = len(path) == 3 and path[0] == 1
            if not is_row:
                self.wrong(path, here[:-1])
                self.wrong(path, here + here[-1:])
                self.wrong(path, ())

    def test_no_truth_and_no_text_in_the_place_of_a_number(self):
        for path in numbers_within(WORLD):
            for value in (True, False, "0", None, 0.0, (), (0,)):
                self.wrong(path, value)

    def test_places(self):
        self.edges((0, 0, 0), (-1, 0, 5), (-2, 6))
        self.edges((0, 1, 0), (-1, 0, 6), (-2, 7))

    def test_numbers_of_any_size(self):
        for box in range(3):
            self.edges((0, 0, 1, box), (-(10 ** 299), -1, 0, 10 ** 299), ())

    def test_names(self):
        for box in range(3):
            self.edges((0, 1, 2, box), (-1, 0, 1, 2), (-2, 3))

    def test_sets(self):
        for box in range(2):
            self.edges((0, 1, 3, box), (0, 1, 7), (-1, 8))

    def test_bells(self):
        self.edges((0, 0, 4), (True, False), (0, 1, None, "no", ()))

    def test_letters(self):
        self.edges((1, 1, 0, 1, 0), (1, 12), (0, 13, -1))
        self.edges((1, 1, 0, 1, 1), (-(10 ** 299), 10 ** 299), ())
        self.edges((1, 1, 0, 1, 2), (-1, 0, 2), (-2, 3))

    def test_rows_of_at_most_room_letters(self):
        letter = (3, 0, -1)
        self.edges((1, 2, 2), ((), (letter,), (letter, letter)), ((letter,) * 3, (letter, None), letter, ("abc",)))

    def test_left(self):
        self.edges((2, 0), (0, 1), (-1, 2))
        self.edges((2, 1), (0, 1, 2), (-1, 3))

    def test_by_its_form_alone(self):
        self.good((0, 2), (-1, (1, 2, 3), (0, 1, 2), (7, 7), True))
        self.good((1, 2, 0), ((1, 1, 1),))
        self.good((2,), (1, 2))

    def test_as_many_hands(self):
        two = (2, (1, 2), (SENDER, TAKER), (0, 1))
        self.assertIs(is_world(PROGRAM, first(two)), False)
        self.assertIs(is_world(two, first(PROGRAM)), False)


if __name__ == "__main__":
    unittest.main()
