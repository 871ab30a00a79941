import itertools
import random
import unittest

from letterall.deeds import do, moves
from letterall.patterns import is_pattern, lies_in, pattern_of
from letterall.programs import look_over
from letterall.spreads import spread
from letterall.worlds import first
from tests.samples import BELL, mine, some_pattern, some_program, some_world, world_of

NOUGHTS = ((0, 0),) * 3
FREE = (None, None)
END = mine(1, NOUGHTS)
GONE = mine(-1, NOUGHTS)
PAIRS = ((1, 2), (None, 5), (-3, None))
MOVE = ("do", 0, 0)


def program_of(step, hands=(0,), room=2, left=(0, 0)):
    """Hand 0 has the step at place 0 of a part of six; all others have parts of one step."""
    return (room, left, ((step,) + (BELL,) * 5,) + ((BELL,),) * 5, hands)


class Spread(unittest.TestCase):
    def leads(self, program, pattern, outcomes):
        """That these are the outcomes of hand 0's moves."""
        self.assertIsNone(look_over(program))
        self.assertTrue(is_pattern(program, pattern))
        told = spread(program, pattern)
        self.assertIs(type(told), list)
        self.assertEqual([pair for pair in told if pair[0][:2] == ("do", 0)], outcomes)

    def alone(self, step, before, *after):
        """One hand alone, and the parts that come of its part by one and the same move."""
        with self.subTest(step=step, before=before):
            self.leads(program_of(step), world_of([before]), [(MOVE, world_of([each])) for each in after])


class NumberWords(Spread):
    def test_put(self):
        self.alone(("put", 1, -9), mine(numbers=PAIRS), mine(1, ((1, 2), (-9, -9), (-3, None))))

    def test_copy(self):
        self.alone(("copy", 0, 1), mine(numbers=PAIRS), mine(1, ((None, 5), (None, 5), (-3, None))))
        self.alone(("copy", 1, 2), mine(numbers=PAIRS), mine(1, ((1, 2), (-3, None), (-3, None))))
        self.alone(("copy", 2, 0), mine(numbers=PAIRS), mine(1, ((1, 2), (None, 5), (1, 2))))
        self.alone(("copy", 2, 2), mine(numbers=PAIRS), mine(1, PAIRS))

    def test_raise(self):
        for pair, number, told in (((1, 2), 5, (6, 7)), ((1, 2), -5, (-4, -3)), ((None, 5), 3, (None, 8)),
                                   ((-3, None), -3, (-6, None)), (FREE, 7, FREE), ((0, 0), 0, (0, 0))):
            for box in range(3):
                numbers = tuple(pair if each == box else (9, 9) for each in range(3))
                after = tuple(told if each == box else (9, 9) for each in range(3))
                self.alone(("raise", box, number), mine(numbers=numbers), mine(1, after))

    def test_sum(self):
        for one, other, told in (((1, 2), (10, 20), (11, 22)), ((1, 2), (None, 20), (None, 22)),
                                 ((1, 2), (10, None), (11, None)), ((None, 2), (10, 20), (None, 22)),
                                 ((1, None), (10, 20), (11, None)), ((None, 2), (10, None), FREE),
                                 (FREE, (1, 1), FREE), ((1, 1), FREE, FREE), ((-5, -1), (-2, 3), (-7, 2))):
            self.alone(("sum", 0, 2), mine(numbers=(one, (7, 7), other)), mine(1, (told, (7, 7), other)))
            self.alone(("sum", 2, 0), mine(numbers=(other, (7, 7), one)), mine(1, (other, (7, 7), told)))

    def test_sum_of_a_box_with_itself(self):
        for pair, told in (((1, 2), (2, 4)), ((-3, 5), (-6, 10)), ((None, 5), (None, 10)), ((-3, None), (-6, None)),
                           (FREE, FREE)):
            self.alone(("sum", 1, 1), mine(numbers=((8, 9), pair, (8, 9))), mine(1, ((8, 9), told, (8, 9))))

    def test_choose(self):
        program = program_of(("choose", 1, 3))
        self.leads(program, world_of([mine(numbers=PAIRS)]),
                   [(("do", 0, k), world_of([mine(1, ((1, 2), (k, k), (-3, None)))])) for k in range(3)])


def cut_to(pair, keep):
    """The least and the greatest number of a pair that is kept; beyond 30 there is no bound. None for none."""
    low = -50 if pair[0] is None else pair[0]
    high = 50 if pair[1] is None else pair[1]
    kept = [number for number in range(low, high + 1) if keep(number)]
    if not kept:
        return None
    return (None if kept[0] < -30 else kept[0], None if kept[-1] > 30 else kept[-1])


ENDS = (None, -2, -1, 0, 1, 2)
ALL_PAIRS = [(low, high) for low, high in itertools.product(ENDS, repeat=2)
             if low is None or high is None or low <= high]


class Less(Spread):
    def test_told_out(self):
        for pair, below, rest in (((1, 9), (1, 4), (5, 9)), ((1, 4), (1, 4), None), ((5, 9), None, (5, 9)),
                                  ((1, 5), (1, 4), (5, 5)), ((4, 9), (4, 4), (5, 9)), ((None, 4), (None, 4), None),
                                  ((None, 5), (None, 4), (5, 5)), ((5, None), None, (5, None)),
                                  ((4, None), (4, 4), (5, None)), (FREE, (None, 4), (5, None))):
            after = []
            if below is not None:
                after.append(mine(4, ((0, 0), below, (7, 7))))
            if rest is not None:
                after.append(mine(1, ((0, 0), rest, (7, 7))))
            self.alone(("less", 1, 5, 4), mine(numbers=((0, 0), pair, (7, 7))), *after)

    def test_against_each_number(self):
        for pair, number in itertools.product(ALL_PAIRS, range(-3, 4)):
            after = []
            for place, keep in ((6, lambda k: k < number), (1, lambda k: k >= number)):
                if cut_to(pair, keep) is not None:
                    after.append(mine(place, (cut_to(pair, keep), (8, 8), FREE)))
            self.alone(("less", 0, number, 6), mine(numbers=(pair, (8, 8), FREE)), *after)

    def test_where_the_place_is_the_next_one(self):
        self.alone(("less", 0, 5, 1), mine(numbers=((1, 9), (0, 0), (0, 0))),
                   mine(1, ((1, 4), (0, 0), (0, 0))), mine(1, ((5, 9), (0, 0), (0, 0))))

    def test_where_the_place_is_its_own(self):
        self.alone(("less", 2, 0, 0), mine(numbers=((0, 0), (0, 0), (-1, 0))),
                   mine(0, ((0, 0), (0, 0), (-1, -1))), mine(1, ((0, 0), (0, 0), (0, 0))))


class Before(Spread):
    def test_told_out(self):
        for one, other, below, rest in (
                ((1, 9), (3, 6), ((1, 5), (3, 6)), ((3, 9), (3, 6))),
                ((1, 9), (0, 20), ((1, 9), (2, 20)), ((1, 9), (0, 9))),
                ((1, 2), (3, 4), ((1, 2), (3, 4)), None),
                ((3, 4), (1, 2), None, ((3, 4), (1, 2))),
                ((1, 3), (3, 4), ((1, 3), (3, 4)), ((3, 3), (3, 3))),
                ((3, 4), (1, 3), None, ((3, 4), (1, 3))),
                ((5, 5), (5, 5), None, ((5, 5), (5, 5))),
                (FREE, FREE, (FREE, FREE), (FREE, FREE)),
                (FREE, (3, 6), ((None, 5), (3, 6)), ((3, None), (3, 6))),
                ((3, 6), FREE, ((3, 6), (4, None)), ((3, 6), (None, 6))),
                ((None, 4), (2, None), ((None, 4), (2, None)), ((2, 4), (2, 4))),
                ((2, None), (None, 4), ((2, 3), (3, 4)), ((2, None), (None, 4)))):
            after = []
            if below is not None:
                after.append(mine(5, (below[0], (7, 7), below[1])))
            if rest is not None:
                after.append(mine(1, (rest[0], (7, 7), rest[1])))
            self.alone(("before", 0, 2, 5), mine(numbers=(one, (7, 7), other)), *after)

    def test_against_all_numbers(self):
        for one, other in itertools.product(ALL_PAIRS, repeat=2):
            low, high = (-50 if other[0] is None else other[0]), (50 if other[1] is None else other[1])
            mine_low, mine_high = (-50 if one[0] is None else one[0]), (50 if one[1] is None else one[1])
            after = []
            for place, keep, keep_other in ((6, lambda a: a < high, lambda b: mine_low < b),
                                            (1, lambda a: a >= low, lambda b: mine_high >= b)):
                cut, cut_other = cut_to(one, keep), cut_to(other, keep_other)
                self.assertEqual(cut is None, cut_other is None)
                if cut is not None:
                    after.append(mine(place, (cut_other, FREE, cut)))
            self.alone(("before", 2, 0, 6), mine(numbers=(other, FREE, one)), *after)

    def test_where_the_place_is_the_next_one(self):
        self.alone(("before", 0, 1, 1), mine(numbers=((1, 9), (3, 6), (0, 0))),
                   mine(1, ((1, 5), (3, 6), (0, 0))), mine(1, ((3, 9), (3, 6), (0, 0))))

    def test_of_a_box_with_itself(self):
        for pair in ALL_PAIRS:
            for place in (0, 1, 5):
                self.alone(("before", 1, 1, place), mine(numbers=((7, 7), pair, FREE)),
                           mine(1, ((7, 7), pair, FREE)))


class OtherWords(Spread):
    def test_words_that_leave_pairs_alone(self):
        for step, after in ((("go", 4), mine(4, PAIRS)), (("me", 2), mine(1, PAIRS, (-1, -1, 0))),
                            (("only", 0, 0), mine(1, PAIRS, (0, -1, -1))), (("alike", 0, 1, 3), mine(3, PAIRS)),
                            (("all", 0, 0), mine(1, PAIRS)), (("empty", 1), mine(1, PAIRS)),
                            (("join", 0, 2), mine(1, PAIRS)), (("out", 0, 1, 5), mine(5, PAIRS)),
                            (("many", 0, 0, 3), mine(3, PAIRS)), (("many", 0, 1, 3), mine(1, PAIRS)),
                            (BELL, mine(1, PAIRS, bell=True))):
            self.alone(step, mine(numbers=PAIRS), after)

    def test_pick_and_out_by_their_choices(self):
        self.leads(program_of(("pick", 0, 1), (0, 1, 1)), world_of([mine(numbers=PAIRS), GONE, END]),
                   [(("do", 0, (hand,)), world_of([mine(1, PAIRS, (hand, -1, -1)), GONE, END])) for hand in (1, 2)])
        self.leads(program_of(("pick", 0, 0), (0, 1)), world_of([mine(numbers=PAIRS), END]), [])
        self.leads(program_of(("out", 1, 0, 5), (0, 1)), world_of([mine(numbers=PAIRS, sets=(3, 1)), END]),
                   [(("do", 0, (hand,)), world_of([mine(1, PAIRS, (-1, hand, -1), (3 - (1 << hand), 1)), END]))
                    for hand in (0, 1)])

    def test_pairs_go_with_letters(self):
        for box, pair in enumerate(PAIRS):
            program = program_of(("send", 0, 7, box, 1), (0, 1))
            letters = {(0, 1): [(4, (8, 9), 0)]}
            self.leads(program, world_of([mine(numbers=PAIRS, names=(1, 0, -1)), END], letters),
                       [(MOVE, world_of([mine(1, PAIRS, (1, 0, -1)), END], {(0, 1): [(4, (8, 9), 0), (7, pair, 0)]}))])

    def test_a_send_that_may_not_be_done_and_letters_that_are_gone(self):
        step = ("send", 0, 7, 0, 1)
        full = {(0, 1): [(4, FREE, 0)]}
        self.leads(program_of(step, (0, 1), 1), world_of([mine(numbers=PAIRS, names=(1, 0, -1)), END], full), [])
        self.leads(program_of(step, (0, 1), 1), world_of([mine(numbers=PAIRS, names=(1, 0, -1)), GONE]),
                   [(MOVE, world_of([mine(1, PAIRS, (1, 0, -1)), GONE]))])
        self.leads(program_of(step, (0, 1), 1), world_of([mine(numbers=PAIRS), END]),
                   [(MOVE, world_of([mine(1, PAIRS), END]))])

    def test_pairs_come_from_letters(self):
        step = ("take", -1, ((4, 1, 0, 2, 3), (0, 0, 0, 1, 6), (5, 2, 1, 0, 4)))
        letters = {(0, 0): [(5, FREE, -1)], (1, 0): [(4, (None, 9), 1), (5, (1, 1), 0)]}
        before = mine(numbers=PAIRS, bell=True)
        self.leads(program_of(step, (0, 1)), world_of([before, END], letters), [
            (("do", 0, (-1, 0)), world_of([mine(6, PAIRS), END], letters)),
            (("do", 0, (0, 5)), world_of([mine(4, ((1, 2), (None, 5), FREE), (0, -1, -1), bell=True), END],
                                         {(1, 0): letters[1, 0]})),
            (("do", 0, (1, 4)), world_of([mine(3, ((1, 2), (None, 9), (-3, None)), (1, -1, 1), bell=True), END],
                                         {(0, 0): letters[0, 0], (1, 0): [(5, (1, 1), 0)]}))])


class LossesAndFalls(Spread):
    def test_a_loss(self):
        program = (2, (1, 0), ((BELL,),), (0, 0))
        pattern = world_of([END, END], {(0, 1): [(1, FREE, 0), (2, (3, None), 1)]}, (1, 0))
        self.assertEqual(spread(program, pattern),
                         [(("lose", 0, 1), world_of([END, END], {(0, 1): [(2, (3, None), 1)]}, (0, 0)))])

    def test_a_fall(self):
        program = (2, (0, 2), ((BELL,),), (0, 0))
        letters = {(0, 1): [(1, FREE, 0)], (1, 0): [(2, (3, 4), 1)]}
        parts = [mine(1, PAIRS, (1, 1, 1), (3, 3), True), mine(1, (FREE,) * 3)]
        self.assertEqual(spread(program, world_of(parts, letters, (0, 2))), [
            (("fall", 0), world_of([GONE, parts[1]], {(0, 1): letters[0, 1]}, (0, 1))),
            (("fall", 1), world_of([parts[0], GONE], {(1, 0): letters[1, 0]}, (0, 1)))])

    def test_the_order(self):
        roles = ((("less", 0, 3, 0),), (("choose", 0, 2),), (("pick", 0, 2),))
        program = (2, (1, 1), roles, (0, 1, 2, 2))
        blank = mine(0, ((1, 5),) * 3)
        pattern = world_of([blank] * 4, {(3, 0): [(1, FREE, 0)], (0, 3): [(1, FREE, 0)]}, (1, 1))
        self.assertEqual([move for move, outcome in spread(program, pattern)], [
            ("do", 0, 0), ("do", 0, 0), ("do", 1, 0), ("do", 1, 1), ("do", 2, (3,)), ("do", 3, (2,)), ("lose", 0, 3),
            ("lose", 3, 0), ("fall", 0), ("fall", 1), ("fall", 2), ("fall", 3)])

    def test_every_list_is_a_new_one(self):
        program = program_of(("choose", 0, 3))
        spread(program, pattern_of(first(program))).clear()
        self.assertEqual(len(spread(program, pattern_of(first(program)))), 3)


def some_number(chance, pair):
    low = pair[0] if pair[0] is not None else -6 if pair[1] is None else pair[1] - 6
    high = pair[1] if pair[1] is not None else 6 if pair[0] is None else pair[0] + 6
    return chance.choice((low, high, chance.randint(low, high)))


def some_world_in(chance, pattern):
    parts, rows, left = pattern
    return (tuple((place, tuple(some_number(chance, pair) for pair in pairs), *rest) for place, pairs, *rest in parts),
            tuple(tuple(tuple((kind, some_number(chance, pair), name) for kind, pair, name in row) for row in to)
                  for to in rows), left)


class ManyPrograms(unittest.TestCase):
    def test_outcomes_of_a_worlds_own_pattern(self):
        chance = random.Random(28)
        for turn in range(400):
            program = some_program(chance, chance.choice(((0, 0, 1, 2), (0, 1, 1), (2,))))
            world = some_world(chance, program)
            self.assertEqual(spread(program, pattern_of(world)),
                             [(move, pattern_of(do(program, world, move))) for move in moves(program, world)])

    def test_worlds_in_a_pattern_lead_into_its_outcomes(self):
        chance = random.Random(280)
        words = set()
        for turn in range(400):
            program = some_program(chance, chance.choice(((0, 0, 1, 2), (0, 1, 1), (2,))))
            pattern = some_pattern(chance, program)
            told = spread(program, pattern)
            for each in range(4):
                world = some_world_in(chance, pattern)
                self.assertTrue(lies_in(world, pattern))
                self.assertEqual(moves(program, world), list(dict.fromkeys(move for move, outcome in told)))
                for move in moves(program, world):
                    after = do(program, world, move)
                    self.assertTrue(any(lies_in(after, outcome) for made, outcome in told if made == move))
                    if move[0] == "do":
                        words.add(program[2][program[3][move[1]]][world[0][move[1]][0]][0])
            self.assertTrue(all(is_pattern(program, outcome) for move, outcome in told))
        self.assertEqual(len(words), 20)


if __name__ == "__main__":
    unittest.main()
