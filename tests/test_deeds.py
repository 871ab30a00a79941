import random
import unittest

from letterall.deeds import do, mover, moves
from letterall.errors import NoMove
from letterall.programs import look_over
from letterall.worlds import first, is_world
from tests.samples import BELL, mine, some_program, with_truths, world_of

GONE = mine(-1)
END = mine(1)


def program_of(step, hands=(0,), room=2, left=(0, 0)):
    """Hand 0 has the step at place 0 of a part of six; all others have parts of one step."""
    return (room, left, ((step,) + (BELL,) * 5,) + ((BELL,),) * 5, hands)


class Deeds(unittest.TestCase):
    def leads(self, program, world, choices, after):
        """That hand 0 has just these choices, and where each of them leads."""
        self.assertIsNone(look_over(program))
        self.assertTrue(is_world(program, world))
        told = moves(program, world)
        self.assertIs(type(told), list)
        self.assertEqual([move for move in told if move[:2] == ("do", 0)], [("do", 0, choice) for choice in choices])
        for choice, expected in zip(choices, after, strict=True):
            with self.subTest(choice=choice):
                self.assertEqual(do(program, world, ("do", 0, choice)), expected)
        for choice in (0, (0,), (1,), (-1, 0), (0, 1), (1, 1)):
            if choice not in choices:
                self.refused(program, world, ("do", 0, choice))

    def refused(self, program, world, move):
        with self.subTest(move=move):
            with self.assertRaises(NoMove) as caught:
                do(program, world, move)
            self.assertEqual(caught.exception.at, 0)

    def alone(self, step, before, after):
        """One hand alone, and a step that is done in one way."""
        self.leads(program_of(step), world_of([before]), [0], [world_of([after])])


class NumberWords(Deeds):
    def test_put(self):
        self.alone(("put", 1, -9), mine(numbers=(1, 2, 3)), mine(1, numbers=(1, -9, 3)))

    def test_copy(self):
        self.alone(("copy", 0, 2), mine(numbers=(1, 2, 3)), mine(1, numbers=(3, 2, 3)))
        self.alone(("copy", 1, 1), mine(numbers=(1, 2, 3)), mine(1, numbers=(1, 2, 3)))

    def test_raise(self):
        self.alone(("raise", 2, 5), mine(numbers=(1, 2, 3)), mine(1, numbers=(1, 2, 8)))
        self.alone(("raise", 0, -5), mine(numbers=(1, 2, 3)), mine(1, numbers=(-4, 2, 3)))

    def test_sum(self):
        self.alone(("sum", 0, 2), mine(numbers=(1, 2, 3)), mine(1, numbers=(4, 2, 3)))
        self.alone(("sum", 1, 1), mine(numbers=(1, 2, 3)), mine(1, numbers=(1, 4, 3)))

    def test_great_numbers(self):
        great = 10 ** 59
        self.alone(("sum", 0, 1), mine(numbers=(great, great, 0)), mine(1, numbers=(2 * great, great, 0)))

    def test_choose(self):
        self.leads(program_of(("choose", 1, 3)), world_of([mine(numbers=(7, 8, 9))]), [0, 1, 2],
                   [world_of([mine(1, numbers=(7, k, 9))]) for k in range(3)])
        self.leads(program_of(("choose", 0, 1)), world_of([mine()]), [0], [world_of([mine(1)])])
        program = program_of(("choose", 0, 20))
        self.assertEqual(moves(program, first(program)), [("do", 0, k) for k in range(20)])
        self.refused(program, first(program), ("do", 0, 20))
        self.refused(program, first(program), ("do", 0, -1))

    def test_less(self):
        self.alone(("less", 1, 5, 4), mine(numbers=(0, 4, 9)), mine(4, numbers=(0, 4, 9)))
        self.alone(("less", 1, 5, 4), mine(numbers=(0, 5, 0)), mine(1, numbers=(0, 5, 0)))
        self.alone(("less", 1, -5, 6), mine(numbers=(0, -6, 0)), mine(6, numbers=(0, -6, 0)))

    def test_before(self):
        self.alone(("before", 0, 2, 5), mine(numbers=(3, 0, 4)), mine(5, numbers=(3, 0, 4)))
        self.alone(("before", 0, 2, 5), mine(numbers=(4, 9, 4)), mine(1, numbers=(4, 9, 4)))
        self.alone(("before", 2, 0, 5), mine(numbers=(3, 0, 4)), mine(1, numbers=(3, 0, 4)))
        self.alone(("before", 1, 1, 5), mine(numbers=(3, 0, 4)), mine(1, numbers=(3, 0, 4)))

    def test_go(self):
        self.alone(("go", 0), mine(), mine(0))
        self.alone(("go", 6), mine(), mine(6))


class NameWords(Deeds):
    def test_me(self):
        self.alone(("me", 2), mine(), mine(1, names=(-1, -1, 0)))
        program = (1, (0, 0), ((("me", 0),),), (0, 0))
        self.assertEqual(do(program, first(program), ("do", 1, 0)), world_of([mine(), mine(1, names=(1, -1, -1))]))

    def test_only(self):
        self.leads(program_of(("only", 1, 2), (0, 1, 2)), world_of([mine(), END, END]), [0],
                   [world_of([mine(1, names=(-1, 2, -1)), END, END])])
        self.leads(program_of(("only", 1, 0), (0,)), world_of([mine()]), [0], [world_of([mine(1, names=(-1, 0, -1))])])

    def test_only_of_a_fallen_hand(self):
        self.leads(program_of(("only", 1, 1), (0, 1)), world_of([mine(), GONE]), [0],
                   [world_of([mine(1, names=(-1, 1, -1)), GONE])])

    def test_pick(self):
        program = program_of(("pick", 0, 1), (0, 1, 1, 2))
        self.leads(program, world_of([mine(), END, END, END]), [(1,), (2,)],
                   [world_of([mine(1, names=(hand, -1, -1)), END, END, END]) for hand in (1, 2)])

    def test_pick_of_fallen_hands_too(self):
        program = program_of(("pick", 0, 1), (0, 1, 1))
        self.leads(program, world_of([mine(), GONE, END]), [(1,), (2,)],
                   [world_of([mine(1, names=(hand, -1, -1)), GONE, END]) for hand in (1, 2)])

    def test_pick_never_itself(self):
        program = (1, (0, 0), ((("pick", 2, 0),),), (0, 0, 0))
        self.assertEqual(moves(program, first(program)),
                         [("do", 0, (1,)), ("do", 0, (2,)), ("do", 1, (0,)), ("do", 1, (2,)), ("do", 2, (0,)),
                          ("do", 2, (1,))])
        self.assertEqual(do(program, first(program), ("do", 1, (2,))),
                         world_of([mine(), mine(1, names=(-1, -1, 2)), mine()]))
        self.refused(program, first(program), ("do", 1, (1,)))

    def test_pick_of_a_role_without_another_hand(self):
        self.leads(program_of(("pick", 0, 0), (0, 1)), world_of([mine(), END]), [], [])
        self.leads(program_of(("pick", 0, 3), (0, 1)), world_of([mine(), END]), [], [])

    def test_alike(self):
        program = program_of(("alike", 0, 2, 4), (0, 1, 2))
        for names, place in (((1, 0, 1), 4), ((1, 1, 2), 1), ((-1, 0, -1), 4), ((-1, 0, 0), 1), ((0, 2, -1), 1)):
            self.leads(program, world_of([mine(names=names), END, END]), [0],
                       [world_of([mine(place, names=names), END, END])])
        self.alone(("alike", 1, 1, 3), mine(), mine(3))


class SetWords(Deeds):
    def test_all(self):
        program = program_of(("all", 1, 1), (0, 1, 1, 2))
        self.leads(program, world_of([mine(sets=(9, 9)), GONE, END, END]), [0],
                   [world_of([mine(1, sets=(9, 6)), GONE, END, END])])

    def test_all_of_a_role_whose_number_is_not_the_boxes(self):
        self.leads(program_of(("all", 0, 2), (0, 1, 2, 2)), world_of([mine(), END, END, END]), [0],
                   [world_of([mine(1, sets=(12, 0)), END, END, END])])

    def test_all_but_itself(self):
        program = (1, (0, 0), ((("all", 0, 0),),), (0, 0, 0))
        self.assertEqual(do(program, first(program), ("do", 1, 0)), world_of([mine(), mine(1, sets=(5, 0)), mine()]))
        self.alone(("all", 0, 0), mine(sets=(1, 1)), mine(1, sets=(0, 1)))
        self.alone(("all", 0, 4), mine(sets=(1, 1)), mine(1, sets=(0, 1)))

    def test_empty(self):
        self.alone(("empty", 1), mine(sets=(1, 1)), mine(1, sets=(1, 0)))
        self.alone(("empty", 0), mine(), mine(1))

    def test_join(self):
        program = program_of(("join", 0, 1), (0, 1, 2))
        for names, some, after in (((0, 2, 1), 0, 4), ((0, 2, 1), 3, 7), ((0, 2, 1), 4, 4), ((0, -1, 1), 3, 3),
                                   ((1, 0, 1), 6, 7)):
            self.leads(program, world_of([mine(names=names, sets=(some, 2)), END, END]), [0],
                       [world_of([mine(1, names=names, sets=(after, 2)), END, END])])

    def test_out(self):
        program = program_of(("out", 2, 1, 5), (0, 1, 2))
        self.leads(program, world_of([mine(sets=(2, 5)), END, GONE]), [(0,), (2,)],
                   [world_of([mine(1, names=(-1, -1, 0), sets=(2, 4)), END, GONE]),
                    world_of([mine(1, names=(-1, -1, 2), sets=(2, 1)), END, GONE])])

    def test_out_of_an_empty_set(self):
        program = program_of(("out", 2, 1, 5), (0, 1))
        self.leads(program, world_of([mine(names=(0, 1, 1), sets=(2, 0)), END]), [0],
                   [world_of([mine(5, names=(0, 1, 1), sets=(2, 0)), END])])

    def test_many(self):
        for amount, some, place in ((0, 0, 3), (1, 0, 1), (1, 4, 3), (2, 4, 1), (2, 5, 3), (3, 7, 3), (4, 7, 1),
                                    (6, 7, 1)):
            program = program_of(("many", 1, amount, 3), (0, 1, 2))
            self.leads(program, world_of([mine(sets=(7 - some, some)), END, END]), [0],
                       [world_of([mine(place, sets=(7 - some, some)), END, END])])


class Send(Deeds):
    STEP = ("send", 0, 7, 2, 1)

    def test_send(self):
        program = program_of(self.STEP, (0, 1))
        before = mine(numbers=(1, 2, -3), names=(1, 0, -1))
        after = mine(1, numbers=(1, 2, -3), names=(1, 0, -1))
        self.leads(program, world_of([before, END]), [0], [world_of([after, END], {(0, 1): [(7, -3, 0)]})])

    def test_a_letter_comes_behind_the_others(self):
        program = program_of(self.STEP, (0, 1), room=2)
        before = mine(numbers=(1, 2, 3), names=(1, -1, 0))
        after = mine(1, numbers=(1, 2, 3), names=(1, -1, 0))
        others = {(1, 0): [(1, 1, 1)] * 2, (1, 1): [(2, 2, -1)] * 2}
        self.leads(program, world_of([before, END], {(0, 1): [(4, 4, 0)], **others}), [0],
                   [world_of([after, END], {(0, 1): [(4, 4, 0), (7, 3, -1)], **others})])

    def test_a_full_row(self):
        letters = [(4, 4, 0)] * 10
        for room in (1, 2, 10):
            program = program_of(self.STEP, (0, 1), room=room)
            self.leads(program, world_of([mine(names=(1, -1, -1)), END], {(0, 1): letters[:room]}), [], [])
            self.leads(program, world_of([mine(names=(1, -1, -1)), END], {(0, 1): letters[1:room]}), [0],
                       [world_of([mine(1, names=(1, -1, -1)), END], {(0, 1): letters[1:room] + [(7, 0, -1)]})])

    def test_to_none(self):
        self.leads(program_of(self.STEP, (0, 1)), world_of([mine(), END], {(0, 1): [(4, 4, 0)] * 2}), [0],
                   [world_of([mine(1), END], {(0, 1): [(4, 4, 0)] * 2})])

    def test_to_a_fallen_hand(self):
        self.leads(program_of(self.STEP, (0, 1)), world_of([mine(names=(1, -1, -1)), GONE]), [0],
                   [world_of([mine(1, names=(1, -1, -1)), GONE])])
        full = {(0, 1): [(4, 4, 0)] * 2}
        self.leads(program_of(self.STEP, (0, 1)), world_of([mine(names=(1, -1, -1)), GONE], full), [0],
                   [world_of([mine(1, names=(1, -1, -1)), GONE], full)])

    def test_to_itself(self):
        names = (0, -1, -1)
        self.leads(program_of(self.STEP, room=1), world_of([mine(names=names)]), [0],
                   [world_of([mine(1, names=names)], {(0, 0): [(7, 0, -1)]})])
        self.leads(program_of(self.STEP, room=1), world_of([mine(names=names)], {(0, 0): [(7, 0, -1)]}), [], [])


class Take(Deeds):
    LINES = ((5, 2, 0, 1, 4), (0, 0, 0, 1, 6), (3, 0, 2, 0, 2))

    def test_from_any(self):
        program = program_of(("take", -1, self.LINES), (0, 1, 2, 2))
        letters = {(1, 0): [(3, -8, 2), (5, 1, 1)], (2, 0): [(4, 0, 0), (3, 0, 0)], (3, 0): [(5, 6, -1)],
                   (0, 1): [(3, 0, 0)]}
        before = mine(numbers=(7, 7, 7), names=(0, 1, 2), sets=(1, 2))
        rest = [END, END, END]
        self.leads(program, world_of([before] + rest, letters), [(1, 3), (3, 5)],
                   [world_of([mine(2, (-8, 7, 7), (1, 1, 2), (1, 2))] + rest, {**letters, (1, 0): [(5, 1, 1)]}),
                    world_of([mine(4, (7, 7, 6), (-1, 3, 2), (1, 2))] + rest, {**letters, (3, 0): []})])

    def test_the_bell_goes_first(self):
        program = program_of(("take", -1, self.LINES), (0, 1))
        letters = {(1, 0): [(5, 9, 0)], (0, 0): [(3, 1, 1)]}
        names = (1, 1, 1)
        self.leads(program, world_of([mine(names=names, bell=True), END], letters), [(-1, 0), (0, 3), (1, 5)],
                   [world_of([mine(6, names=names), END], letters),
                    world_of([mine(2, (1, 0, 0), (0, 1, 1), bell=True), END], {**letters, (0, 0): []}),
                    world_of([mine(4, (0, 0, 9), (0, 1, 1), bell=True), END], {**letters, (1, 0): []})])

    def test_a_bell_without_its_line(self):
        program = program_of(("take", -1, self.LINES[:1]), (0, 1))
        self.leads(program, world_of([mine(bell=True), END]), [], [])
        self.leads(program, world_of([mine(bell=True), END], {(1, 0): [(5, 1, -1)]}), [(1, 5)],
                   [world_of([mine(4, (0, 0, 1), (-1, 1, -1), bell=True), END])])

    def test_a_bell_that_is_not_set(self):
        self.leads(program_of(("take", -1, self.LINES)), world_of([mine()]), [], [])

    def test_by_a_box(self):
        program = program_of(("take", 1, self.LINES), (0, 1, 2))
        letters = {(0, 0): [(3, 1, 0)], (1, 0): [(3, 2, 1)], (2, 0): [(5, 3, 2)]}
        rest = [END, END]
        self.leads(program, world_of([mine(names=(2, 1, 2))] + rest, letters), [(1, 3)],
                   [world_of([mine(2, (2, 0, 0), (1, 1, 1))] + rest, {**letters, (1, 0): []})])
        self.leads(program, world_of([mine(names=(1, 2, 1), bell=True)] + rest, letters), [(-1, 0), (2, 5)],
                   [world_of([mine(6, names=(1, 2, 1))] + rest, letters),
                    world_of([mine(4, (0, 0, 3), (2, 2, 1), bell=True)] + rest, {**letters, (2, 0): []})])

    def test_the_box_as_it_is_ahead_of_the_step(self):
        program = program_of(("take", 1, ((3, 0, 1, 2, 5),)), (0, 1, 2))
        letters = {(1, 0): [(3, 4, 2)], (2, 0): [(3, 5, 1)]}
        self.leads(program, world_of([mine(names=(-1, 1, -1)), END, END], letters), [(1, 3)],
                   [world_of([mine(5, (4, 0, 0), (-1, 2, 1)), END, END], {(2, 0): [(3, 5, 1)]})])

    def test_by_a_box_without_a_hand(self):
        program = program_of(("take", 2, self.LINES), (0, 1))
        letters = {(1, 0): [(3, 1, 0)], (0, 0): [(3, 1, 0)]}
        self.leads(program, world_of([mine(names=(1, 1, -1)), END], letters), [], [])
        self.leads(program, world_of([mine(bell=True), END], letters), [(-1, 0)],
                   [world_of([mine(6), END], letters)])

    def test_only_the_first_letter(self):
        program = program_of(("take", -1, self.LINES), (0, 1))
        self.leads(program, world_of([mine(), END], {(1, 0): [(4, 0, 0), (5, 0, 0)]}), [], [])

    def test_letters_from_a_fallen_hand(self):
        program = program_of(("take", -1, self.LINES), (0, 1))
        self.leads(program, world_of([mine(), GONE], {(1, 0): [(3, 2, 1)]}), [(1, 3)],
                   [world_of([mine(2, (2, 0, 0), (1, -1, 1)), GONE])])

    def test_letters_to_others_are_not_taken(self):
        program = program_of(("take", -1, self.LINES), (0, 1))
        self.leads(program, world_of([mine(), END], {(0, 1): [(3, 2, 1)], (1, 1): [(3, 2, 1)]}), [], [])


class Bell(Deeds):
    def test_bell(self):
        self.alone(("bell",), mine(), mine(1, bell=True))
        self.alone(("bell",), mine(bell=True), mine(1, bell=True))


class WhoMayMove(Deeds):
    def test_none_at_its_end(self):
        program = program_of(("go", 6), (0, 1))
        self.assertEqual(moves(program, world_of([mine(6), END])), [])
        self.assertEqual(moves(program, world_of([mine(5), END])), [("do", 0, 0)])
        self.refused(program, world_of([mine(6), END]), ("do", 0, 0))

    def test_none_that_has_fallen(self):
        program = program_of(("go", 6), (0, 1))
        self.assertEqual(moves(program, world_of([GONE, mine()])), [("do", 1, 0)])
        self.refused(program, world_of([GONE, mine()]), ("do", 0, 0))

    def test_a_part_without_steps(self):
        program = (1, (0, 0), ((), (BELL,)), (0, 1))
        self.assertEqual(moves(program, first(program)), [("do", 1, 0)])

    def test_the_order(self):
        roles = ((("choose", 0, 2),), (("pick", 0, 1),))
        program = (2, (1, 1), roles, (0, 1, 1))
        world = world_of([mine(), mine(), mine()],
                         {(2, 0): [(1, 0, 0)], (0, 2): [(1, 0, 0)], (0, 1): [(1, 0, 0)], (1, 1): [(1, 0, 0)]}, (1, 1))
        self.assertEqual(moves(program, world), [
            ("do", 0, 0), ("do", 0, 1), ("do", 1, (2,)), ("do", 2, (1,)),
            ("lose", 0, 1), ("lose", 0, 2), ("lose", 1, 1), ("lose", 2, 0),
            ("fall", 0), ("fall", 1), ("fall", 2)])

    def test_every_list_is_a_new_one(self):
        program = program_of(("choose", 0, 3), left=(0, 1))
        told = moves(program, first(program))
        told.clear()
        self.assertEqual(len(moves(program, first(program))), 4)


class LossesAndFalls(Deeds):
    PROGRAM = (3, (2, 2), ((BELL,), (BELL,)), (0, 1, 1))

    def test_lose(self):
        letters = {(1, 0): [(3, 3, 1), (4, 4, -1)], (0, 1): [(5, 0, 0)]}
        world = world_of([END, END, END], letters, (2, 0))
        self.assertEqual(moves(self.PROGRAM, world), [("lose", 0, 1), ("lose", 1, 0)])
        self.assertEqual(do(self.PROGRAM, world, ("lose", 1, 0)),
                         world_of([END, END, END], {**letters, (1, 0): [(4, 4, -1)]}, (1, 0)))
        self.assertEqual(do(self.PROGRAM, world, ("lose", 0, 1)),
                         world_of([END, END, END], {**letters, (0, 1): []}, (1, 0)))
        for move in (("lose", 0, 0), ("lose", 2, 0), ("lose", 1, 2), ("lose", 3, 0), ("lose", 0, 3), ("lose", -2, 0),
                     ("lose", 0, -2)):
            self.refused(self.PROGRAM, world, move)

    def test_no_losses_left(self):
        world = world_of([END, END, END], {(1, 0): [(3, 3, 1)]}, (0, 0))
        self.assertEqual(moves(self.PROGRAM, world), [])
        self.refused(self.PROGRAM, world, ("lose", 1, 0))

    def test_fall(self):
        letters = {(0, 0): [(1, 0, 0)], (0, 1): [(2, 0, 0)], (1, 0): [(3, 0, 0)], (1, 1): [(4, 0, 0)],
                   (1, 2): [(5, 0, 0)], (2, 1): [(6, 0, 0), (7, 0, 0)]}
        world = world_of([END, mine(1, (1, 2, 3), (0, 1, 2), (3, 4), True), END], letters, (0, 2))
        self.assertEqual(moves(self.PROGRAM, world), [("fall", 0), ("fall", 1), ("fall", 2)])
        after = world_of([END, GONE, END], {key: letters[key] for key in ((0, 0), (1, 0), (1, 2))}, (0, 1))
        self.assertEqual(do(self.PROGRAM, world, ("fall", 1)), after)
        self.assertEqual(moves(self.PROGRAM, after), [("fall", 0), ("fall", 2)])
        self.refused(self.PROGRAM, after, ("fall", 1))
        self.refused(self.PROGRAM, after, ("do", 1, 0))
        for move in (("fall", 3), ("fall", -1)):
            self.refused(self.PROGRAM, world, move)

    def test_no_falls_left(self):
        world = world_of([END, mine(), END], {(1, 0): [(3, 3, 1)]}, (2, 0))
        self.assertEqual(moves(self.PROGRAM, world), [("do", 1, 0), ("lose", 1, 0)])
        self.refused(self.PROGRAM, world, ("fall", 0))

    def test_a_hand_at_its_end_may_fall(self):
        world = world_of([END, END, END], {}, (0, 1))
        self.assertEqual(do(self.PROGRAM, world, ("fall", 2)), world_of([END, END, GONE], {}, (0, 0)))


class Mover(unittest.TestCase):
    def test_mover(self):
        for move, hand in ((("do", 0, 0), 0), (("do", 5, (-1, 0)), 5), (("do", 3, (1,)), 3), (("lose", 1, 2), -1),
                           (("fall", 4), -1)):
            with self.subTest(move=move):
                self.assertEqual(mover(move), hand)


class Refused(Deeds):
    LINES = ((1, 0, 0, 1, 1), (0, 0, 0, 1, 1))
    PROGRAM = (2, (1, 1), ((("choose", 0, 2),), (("pick", 0, 1),), (("take", -1, LINES),)), (0, 1, 1, 2))
    WORLD = world_of([mine(), mine(), mine(), mine(bell=True)], {(1, 3): [(1, 0, 0)], (1, 0): [(1, 0, 0)]}, (1, 1))

    def test_the_moves_there_are(self):
        self.assertTrue(is_world(self.PROGRAM, self.WORLD))
        self.assertEqual(moves(self.PROGRAM, self.WORLD), [
            ("do", 0, 0), ("do", 0, 1), ("do", 1, (2,)), ("do", 2, (1,)), ("do", 3, (-1, 0)), ("do", 3, (1, 1)),
            ("lose", 1, 0), ("lose", 1, 3), ("fall", 0), ("fall", 1), ("fall", 2), ("fall", 3)])

    def test_things_that_are_no_moves(self):
        for thing in (None, 0, True, "do", "fall", (), [], {}, ("do",), ("do", 0), ("do", 0, 0, 0), ["do", 0, 0],
                      ("do", 0, [0]), ("do", 1, [2]), ("do", 1, 2), ("do", 1, (2, 0)), ("do", 1, ()), ("do", 0, None),
                      ("do", None, 0), ("do", "0", 0), ("do", 0, "0"), ("do", 0.0, 0), ("do", 0, 0.0),
                      ("do", 1, (2.0,)), ("do", 3, (1, 1, 0)), ("do", 3, (1,)), ("do", 3, (1, 0)), ("do", 3, (-1, 1)),
                      ("do", 3, 0), ("do", 0, (0,)), ("do", -1, 0), ("do", -1, (-1, 0)),
                      ("do", -4, 0), ("do", 4, 0), ("done", 0, 0), (None, 0, 0), (0, 0, 0), ("done", 0), (None, 0),
                      ("lose", 1), ("lose", 1, 0, 0), ("lose", 1.0, 0), ("lose", 1, None), ["lose", 1, 0],
                      ("lose", (1,), 0), ("fall",), ("fall", 0, 0), ("fall", 0.0), ("fall", (0,)), ["fall", 0]):
            self.refused(self.PROGRAM, self.WORLD, thing)

    def test_a_truth_in_the_place_of_a_number(self):
        for move in (("do", False, 0), ("do", 0, False), ("do", 0, True), ("do", True, (2,)), ("do", 2, (True,)),
                     ("do", 3, (-1, False)), ("do", 3, (True, 1)), ("do", 3, (1, True)), ("lose", True, 0),
                     ("lose", 1, False), ("fall", False), ("fall", True)):
            self.refused(self.PROGRAM, self.WORLD, move)


class ManyPrograms(unittest.TestCase):
    def test_moves_lead_to_worlds(self):
        chance = random.Random(20)
        words = set()
        for turn in range(150):
            program = some_program(chance)
            self.assertIsNone(look_over(program))
            world = first(program)
            for made in range(30):
                told = moves(program, world)
                if not told:
                    break
                self.assertEqual(len(told), len(set(told)))
                self.check_truths(program, world, told)
                after = [do(program, world, move) for move in told]
                self.assertTrue(all(is_world(program, each) for each in after))
                move = chance.choice([each for each in told if each[0] == "do"] or told)
                if move[0] == "do":
                    words.add(program[2][program[3][move[1]]][world[0][move[1]][0]][0])
                world = do(program, world, move)
        self.assertEqual(len(words), 20)

    def check_truths(self, program, world, told):
        for each in told:
            for move in with_truths(each):
                with self.assertRaises(NoMove):
                    do(program, world, move)


if __name__ == "__main__":
    unittest.main()
