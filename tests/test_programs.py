import unittest

from letterall.errors import NoProgram
from letterall.programs import counts_of, hands_of, length_of, look_over, step_at

BELL = ("bell",)
PARTS = ((BELL, ("go", 0), ("only", 0, 2)), (), (("me", 1),), (BELL,))
PROGRAM = (2, (1, 0), PARTS, (0, 0, 2, 3, 3, 3))

GOOD = (
    PROGRAM,
    (1, (0, 0), ((),), (0,)),
    (10, (5, 5), ((),) * 6, (5,) * 6),
    (1, (0, 5), ((),) * 6, (0, 1, 2, 3, 4, 5)),
    (1, (5, 0), ((BELL,) * 60,), (0,)),
    (3, (0, 0), ((("go", 60),) + (BELL,) * 59, ()), (1,)),
    (3, (0, 0), ((), (("only", 2, 1),), ()), (1,)),
)


def with_thing(at, thing):
    return PROGRAM[:at] + (thing,) + PROGRAM[at + 1:]


def with_parts(*parts):
    return (1, (0, 0), parts, (0,))


WRONG_FRAMES = (
    [None, 0, True, "abcd", (), list(PROGRAM), PROGRAM[:3], PROGRAM + (0,), {}]
    + [with_thing(0, room) for room in (0, 11, -1, True, "1", None, 1.0, (1,))]
    + [with_thing(1, left) for left in (None, 0, (), (0,), (0, 0, 0), [0, 0], (-1, 0), (0, -1), (6, 0), (0, 6),
                                        (True, 0), (0, False), ("0", 0), (0, None), "00")]
    + [with_thing(2, roles) for roles in (None, 0, (), list(PARTS), PARTS[:3], ((),) * 7, PARTS[:3] + (None,),
                                          PARTS[:3] + ([],), ([BELL],) + PARTS[1:], ("",) + PARTS[1:],
                                          ((BELL,) * 61,) + PARTS[1:], PARTS[:3] + ((BELL,) * 61,))]
    + [with_thing(3, hands) for hands in (None, 0, (), [0], (0,) * 7, (-1,), (4,), (0, 4), (1, 0), (0, 2, 1),
                                          (0, True), (False,), ("0",), (None,), (1.0,), "0")]
)


class LookOver(unittest.TestCase):
    def refused(self, program, role, place):
        with self.subTest(program=program):
            with self.assertRaises(NoProgram) as caught:
                look_over(program)
            self.assertEqual((caught.exception.role, caught.exception.place), (role, place))

    def test_good_ones(self):
        for program in GOOD:
            with self.subTest(program=program):
                self.assertIsNone(look_over(program))

    def test_something_but_a_step(self):
        for program in WRONG_FRAMES:
            self.refused(program, -1, -1)

    def test_something_but_a_step_goes_ahead_of_a_step(self):
        wrong = ((BELL, ("go", 9)),)
        self.refused((0, (0, 0), wrong, (0,)), -1, -1)
        self.refused((1, (0, 6), wrong, (0,)), -1, -1)
        self.refused((1, (0, 0), wrong, (1,)), -1, -1)
        self.refused((1, (0, 0), wrong, ()), -1, -1)
        self.refused((1, (0, 0), wrong + ([],), (0,)), -1, -1)
        self.refused((1, (0, 0), wrong + ((BELL,) * 61,), (0,)), -1, -1)
        self.refused((1, (0, 0), ((None,) * 61,), (0,)), -1, -1)

    def test_the_first_wrong_step(self):
        self.refused(with_parts((None,)), 0, 0)
        self.refused(with_parts((BELL, BELL, ["bell"], None)), 0, 2)
        self.refused(with_parts((), (BELL, ("bells",)), (None,)), 1, 1)
        self.refused(with_parts((BELL,) * 3 + (("go", 5),), (None,)), 0, 3)
        self.refused(with_parts((), (), (BELL,) * 59 + (("put", 0, True),)), 2, 59)

    def test_places_go_by_the_steps_own_part(self):
        self.assertIsNone(look_over(with_parts((BELL,), (("go", 2), BELL))))
        self.refused(with_parts((BELL,) * 5, (("go", 3), BELL)), 1, 0)

    def test_only_and_roles_go_by_the_hands(self):
        parts = ((("only", 0, 1),), ())
        self.assertIsNone(look_over((1, (0, 0), parts, (0, 1))))
        self.refused((1, (0, 0), parts, (0, 0)), 0, 0)
        self.refused((1, (0, 0), parts, (0, 1, 1)), 0, 0)
        self.assertIsNone(look_over((1, (0, 0), ((("pick", 0, 1),), ()), (0,))))
        self.refused((1, (0, 0), ((("pick", 0, 2),), ()), (0,)), 0, 0)

    def test_a_role_without_a_hand_is_looked_over(self):
        self.refused((1, (0, 0), ((), (BELL, None)), (0,)), 1, 1)


class Told(unittest.TestCase):
    def test_hands_of(self):
        self.assertEqual([hands_of(PROGRAM, role) for role in range(4)], [(0, 1), (), (2,), (3, 4, 5)])
        self.assertIs(type(hands_of(PROGRAM, 1)), tuple)

    def test_counts_of(self):
        self.assertEqual(counts_of(PROGRAM), (2, 0, 1, 3))
        self.assertEqual(counts_of((1, (0, 0), ((), (), ()), (1,))), (0, 1, 0))
        self.assertIs(type(counts_of(PROGRAM)), tuple)

    def test_length_of(self):
        self.assertEqual([length_of(PROGRAM, role) for role in range(4)], [3, 0, 1, 1])

    def test_step_at(self):
        for role, steps in enumerate(PARTS):
            for place, told in enumerate(steps):
                with self.subTest(role=role, place=place):
                    self.assertEqual(step_at(PROGRAM, role, place).told(), told)

    def test_no_step_at_the_length_and_at_minus_one(self):
        for role, steps in enumerate(PARTS):
            with self.subTest(role=role):
                self.assertIsNone(step_at(PROGRAM, role, len(steps)))
                self.assertIsNone(step_at(PROGRAM, role, -1))

    def test_steps_tell_as_those_of_step_of(self):
        step = step_at(PROGRAM, 0, 1)
        self.assertEqual((step.nexts(1), step.forward(1), step.is_quiet_word(), step.writes()),
                         ((0,), False, True, ()))


if __name__ == "__main__":
    unittest.main()
