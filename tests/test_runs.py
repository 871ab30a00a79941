import random
import unittest

from letterall.deeds import do, moves
from letterall.errors import NoMove
from letterall.runs import run, walk
from letterall.worlds import first
from tests.samples import mine, some_program, with_truths, world_of

# Hand 0 chooses for ever; hand 1 takes one letter, which never comes.
ENDLESS = (1, (0, 0), ((("choose", 0, 3), ("go", 0)), (("take", -1, ((1, 0, 0, 1, 1),)),)), (0, 1))
# Three steps in all, and then nobody may move.
SHORT = (1, (0, 0), ((("choose", 0, 5), ("bell",)), (("me", 2),)), (0, 1))
# Moves of every shape.
MIXED = (2, (1, 1), ((("pick", 0, 0), ("send", 0, 1, 0, 0), ("take", -1, ((1, 1, 1, 2, 0),))),), (0, 0, 0))


def worlds_of(program, made):
    worlds = [first(program)]
    for move in made:
        worlds.append(do(program, worlds[-1], move))
    return worlds


def by(numbers):
    """A picker that answers with these numbers, one behind the other, round and round."""
    asked = []

    def pick(told):
        asked.append(list(told))
        return numbers[(len(asked) - 1) % len(numbers)]
    return pick, asked


class Run(unittest.TestCase):
    def check(self, program, numbers, most):
        pick, asked = by(numbers)
        told = run(program, pick, most)
        self.assertIs(type(told), tuple)
        self.assertEqual(len(told), 2)
        made, worlds = told
        self.assertIs(type(made), list)
        self.assertIs(type(worlds), list)
        self.assertEqual(worlds, worlds_of(program, made))
        self.assertEqual(len(asked), len(made))
        for at, may in enumerate(asked):
            self.assertEqual(may, moves(program, worlds[at]))
            self.assertEqual(made[at], may[numbers[at % len(numbers)] % len(may)])
        self.assertTrue(len(made) == max(most, 0) or moves(program, worlds[-1]) == [])
        return made, worlds

    def test_a_run_told_out(self):
        made, worlds = self.check(SHORT, [3, 0, 0], 10)
        self.assertEqual(made, [("do", 0, 3), ("do", 0, 0), ("do", 1, 0)])
        self.assertEqual(worlds, [
            world_of([mine(), mine()]),
            world_of([mine(1, (3, 0, 0)), mine()]),
            world_of([mine(2, (3, 0, 0), bell=True), mine()]),
            world_of([mine(2, (3, 0, 0), bell=True), mine(1, names=(-1, -1, 1))])])

    def test_numbers_of_any_size(self):
        for number, move in ((0, ("do", 0, 0)), (4, ("do", 0, 4)), (5, ("do", 1, 0)), (6, ("do", 0, 0)),
                             (10 ** 59 * 6 + 2, ("do", 0, 2)), (-1, ("do", 1, 0)), (-2, ("do", 0, 4)),
                             (-6, ("do", 0, 0)), (-7, ("do", 1, 0)), (-(10 ** 59 * 6), ("do", 0, 0)),
                             (-(10 ** 59 * 6) - 3, ("do", 0, 3))):
            with self.subTest(number=number):
                made, worlds = self.check(SHORT, [number], 1)
                self.assertEqual(made, [move])

    def test_most(self):
        for most in (1, 2, 7, 300):
            made, worlds = self.check(ENDLESS, [1, 5, -2], most)
            self.assertEqual((len(made), len(worlds)), (most, most + 1))

    def test_a_most_of_nought_and_below(self):
        for most in (0, -1, -5000):
            made, worlds = self.check(ENDLESS, [0], most)
            self.assertEqual((made, worlds), ([], [first(ENDLESS)]))

    def test_no_move_may_be_made(self):
        for most in (3, 4, 5000):
            made, worlds = self.check(SHORT, [-1], most)
            self.assertEqual(len(made), 3)
        self.assertEqual(self.check(SHORT, [-1], 2)[0], [("do", 1, 0), ("do", 0, 4)])
        still = (1, (0, 0), ((),), (0, 0))
        self.assertEqual(self.check(still, [0], 9), ([], [first(still)]))

    def test_losses_and_falls_are_picked(self):
        words = set()
        for seed in range(30):
            chance = random.Random(seed)
            made, worlds = self.check(MIXED, [chance.randint(-90, 90) for number in range(20)], 20)
            words |= {move[0] for move in made}
        self.assertEqual(words, {"do", "lose", "fall"})

    def test_pickers_that_change_their_list(self):
        def clearing(told):
            told.clear()
            return 2

        def turning(told):
            told.reverse()
            return 2

        def lengthening(told):
            told.extend([("do", 7, 7)] * 5)
            return 2

        def shortening(told):
            told[0] = None
            told.pop()
            return 2
        for program in (SHORT, ENDLESS, MIXED):
            expected = run(program, lambda told: 2, 12)
            for pick in (clearing, turning, lengthening, shortening):
                self.assertEqual(run(program, pick, 12), expected)

    def test_each_list_is_a_new_one(self):
        kept = []

        def keeping(told):
            kept.append(told)
            return 0
        made, worlds = run(ENDLESS, keeping, 4)
        self.assertTrue(all(type(told) is list for told in kept))
        self.assertEqual(len({id(told) for told in kept}), 4)
        made.clear()
        worlds.clear()
        self.assertEqual(run(ENDLESS, keeping, 2), ([("do", 0, 0), ("do", 0, 0)],
                                                   worlds_of(ENDLESS, [("do", 0, 0), ("do", 0, 0)])))

    def test_many_programs(self):
        chance = random.Random(15)
        for turn in range(40):
            self.check(some_program(chance), [chance.randint(-50, 50) for number in range(40)], 40)


class Walk(unittest.TestCase):
    def refused(self, program, made, at):
        with self.subTest(made=made):
            with self.assertRaises(NoMove) as caught:
                walk(program, made)
            self.assertEqual(caught.exception.at, at)

    def test_none(self):
        told = walk(SHORT, [])
        self.assertIs(type(told), list)
        self.assertEqual(told, [first(SHORT)])

    def test_the_moves_of_a_run(self):
        chance = random.Random(16)
        for program in [SHORT, ENDLESS, MIXED] + [some_program(chance) for turn in range(30)]:
            made, worlds = run(program, lambda told: chance.randrange(1000), 25)
            handed = list(made)
            self.assertEqual(walk(program, handed), worlds)
            self.assertEqual(handed, made)
            walk(program, handed).clear()
            self.assertEqual(walk(program, handed), worlds)

    def test_refused_at_its_place(self):
        made = [("do", 0, 3), ("do", 1, 0), ("do", 0, 0)]
        self.assertEqual(len(walk(SHORT, made)), 4)
        for at in range(3):
            for wrong in (("do", 0, 5), ("do", 2, 0), ("fall", 0), ("lose", 0, 1), None, ("do", 0, True), ["do", 0, 0]):
                self.refused(SHORT, made[:at] + [wrong] + made[at + 1:], at)
                self.refused(SHORT, made[:at] + [wrong, wrong] + made[at + 1:], at)
        self.refused(SHORT, made + [("do", 0, 0)], 3)
        self.refused(SHORT, [("do", 1, 0), ("do", 1, 0)], 1)

    def test_a_truth_in_the_place_of_a_number(self):
        chance = random.Random(17)
        for program in (SHORT, ENDLESS, MIXED):
            made = run(program, lambda told: chance.randrange(1000), 9)[0]
            for at, move in enumerate(made):
                for wrong in with_truths(move):
                    self.refused(program, made[:at] + [wrong] + made[at + 1:], at)


if __name__ == "__main__":
    unittest.main()
