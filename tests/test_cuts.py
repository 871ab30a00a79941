import random
import unittest

from letterall.cuts import acts, cut, program_of
from letterall.errors import CantKnow, NoProgram, NoTalk
from letterall.programs import look_over
from letterall.steps import step_of
from letterall.talks import hands_in
from tests.samples import changed, some_whole_talk


def tell(to, kind):
    return ("tell", to, kind)


def hear(sender, *rows):
    return ("hear", sender, tuple(rows))


def say(sender, to, kind):
    return ("say", sender, to, kind)


def fork(sender, tos, *branches):
    return ("fork", sender, tos, branches)


def again(sender, tos, more, talk, on):
    return ("again", sender, tos, more, talk, on)


class Acts(unittest.TestCase):
    def told(self, talk, *expected):
        """The acts of each hand of a talk."""
        for hand, told in enumerate(expected):
            with self.subTest(talk=talk, hand=hand):
                found = acts(talk, hand)
                self.assertEqual(found, told)
                self.assertIs(type(found), tuple)
        return expected

    def refused(self, talk, spot, hand):
        """That the talk is refused, whichever hand is asked of."""
        with self.subTest(talk=talk):
            asks = [lambda asked=asked: acts(talk, asked) for asked in range(4)]
            asks += [lambda asked=asked: cut(talk, asked) for asked in range(4)]
            for ask in asks + [lambda: program_of(talk, 1), lambda: program_of(talk, 0)]:
                with self.assertRaises(CantKnow) as caught:
                    ask()
                self.assertEqual((caught.exception.spot, caught.exception.hand), (spot, hand))
                self.assertIs(type(caught.exception.spot), tuple)


class ActsOfLines(Acts):
    def test_nothing(self):
        self.told((), (), (), (), ())

    def test_say(self):
        self.told((say(0, 1, 5),), (tell(1, 5),), (hear(0, (5, ())),), (), ())
        self.told((say(3, 1, 12),), (), (hear(3, (12, ())),), (), (tell(1, 12),))

    def test_one_behind_the_other(self):
        self.told((say(0, 1, 5), say(1, 2, 6), say(1, 0, 7)), (tell(1, 5), hear(1, (7, ()))),
                  (hear(0, (5, ())), tell(2, 6), tell(0, 7)), (hear(1, (6, ())),), ())

    def test_fork(self):
        # The branches of who picks stand in their order, the rows of who hears by kinds.
        talk = (fork(0, (2, 1), (7, (say(1, 0, 4),)), (3, ())), say(0, 1, 9))
        self.told(talk, (("pick", ((tell(2, 7), tell(1, 7), hear(1, (4, ()))), (tell(2, 3), tell(1, 3)))), tell(1, 9)),
                  (hear(0, (3, ()), (7, (tell(0, 4),))), hear(0, (9, ()))), (hear(0, (3, ()), (7, ())),), ())

    def test_fork_within_a_fork(self):
        inner = fork(1, (0,), (2, ()), (1, (say(0, 1, 8),)))
        talk = (fork(0, (1,), (5, (inner,)), (4, ())),)
        self.told(talk, (("pick", ((tell(1, 5), hear(1, (1, (tell(1, 8),)), (2, ()))), (tell(1, 4),))),),
                  (hear(0, (4, ()), (5, (("pick", ((tell(0, 2),), (tell(0, 1), hear(0, (8, ()))))),))),))

    def test_again(self):
        talk = (again(1, (0, 2), 4, (say(0, 2, 6), say(2, 1, 7)), 3), say(1, 3, 1))
        self.told(talk, (("heed", 1, 4, (tell(2, 6),), 3),),
                  (("round", (tell(0, 4), tell(2, 4), hear(2, (7, ()))), (tell(0, 3), tell(2, 3))), tell(3, 1)),
                  (("heed", 1, 4, (hear(0, (6, ())), tell(1, 7)), 3),), (hear(1, (1, ())),))

    def test_again_of_nothing(self):
        self.told((again(0, (1,), 1, (), 2),), (("round", (tell(1, 1),), (tell(1, 2),)),),
                  (("heed", 0, 1, (), 2),), (), ())


class ActsOfOthers(Acts):
    def test_of_an_again(self):
        self.told((again(0, (1,), 1, (say(1, 0, 3),), 2), say(2, 3, 4)),
                  (("round", (tell(1, 1), hear(1, (3, ()))), (tell(1, 2),)),), (("heed", 0, 1, (tell(0, 3),), 2),),
                  (tell(3, 4),), (hear(2, (4, ())),))
        self.refused((again(0, (1,), 1, (say(1, 2, 3),), 2),), (0,), 2)
        self.refused((again(0, (1,), 1, (say(3, 1, 3),), 2),), (0,), 3)
        self.refused((say(0, 1, 1), again(2, (3,), 1, (say(2, 3, 1), say(1, 0, 3)), 2)), (1,), 0)

    def test_of_a_fork_that_does_not_name_it(self):
        talk = (fork(0, (1,), (1, (say(1, 0, 3),)), (2, ())), say(2, 0, 5))
        self.assertEqual(acts(talk, 2), (tell(0, 5),))
        self.assertEqual(acts(talk, 3), ())

    def test_the_examples_of_the_document(self):
        # 0 chooses and tells 1 alone; 2 hears of it by 1.
        talk = (fork(0, (1,), (1, (say(1, 2, 5),)), (2, (say(1, 2, 6),))),)
        self.assertEqual(acts(talk, 2), (hear(1, (5, ()), (6, ())),))
        self.refused((fork(0, (1,), (1, (say(1, 2, 5),)), (2, (say(0, 2, 6),))),), (0,), 2)
        self.refused((fork(0, (1,), (1, (say(1, 2, 5),)), (2, ())),), (0,), 2)
        self.refused((fork(0, (1,), (1, ()), (2, (say(1, 2, 5),))),), (0,), 2)

    def test_what_follows_in_the_branch(self):
        talk = (fork(0, (1,), (1, (say(1, 2, 6), say(2, 0, 7))), (2, (say(1, 2, 5), say(0, 2, 8)))), say(2, 1, 9))
        self.assertEqual(acts(talk, 2), (hear(1, (5, (hear(0, (8, ())),)), (6, (tell(0, 7),))), tell(1, 9)))

    def test_one_kind_in_two_branches(self):
        def talk(*behind):
            return (fork(0, (1,), (1, (say(1, 2, 5), *behind)), (2, (say(1, 2, 5), say(2, 1, 6)))),)
        self.assertEqual(acts(talk(say(2, 1, 6)), 2), (hear(1, (5, (tell(1, 6),))),))
        # What another hand does there is no matter to it.
        self.assertEqual(acts(talk(say(0, 1, 9), say(2, 1, 6)), 2), (hear(1, (5, (tell(1, 6),))),))
        self.refused(talk(), (0,), 2)
        self.refused(talk(say(2, 1, 7)), (0,), 2)
        self.refused(talk(say(2, 0, 6)), (0,), 2)
        self.refused(talk(say(2, 1, 6), say(2, 1, 6)), (0,), 2)

    def test_who_chooses_may_tell_it(self):
        talk = (fork(0, (1,), (1, (say(0, 2, 5),)), (2, (say(0, 2, 6), say(2, 0, 1)))),)
        self.assertEqual(acts(talk, 2), (hear(0, (5, ()), (6, (tell(0, 1),))),))

    def test_one_that_tells_first_can_not_know(self):
        self.refused((fork(0, (1,), (1, (say(2, 1, 5),)), (2, (say(2, 1, 5),))),), (0,), 2)
        self.refused((fork(0, (1,), (1, (say(1, 2, 5),)), (2, (say(2, 1, 5),))),), (0,), 2)
        choosing = fork(2, (1,), (1, ()), (2, ()))
        self.refused((fork(0, (1,), (1, (choosing,)), (2, (choosing,))),), (0,), 2)
        rounds = again(2, (1,), 1, (), 2)
        self.refused((fork(0, (1,), (1, (rounds,)), (2, (rounds,))),), (0,), 2)

    def test_a_fork_that_it_hears(self):
        inner = fork(1, (2,), (8, (say(2, 1, 3),)), (4, ()))
        talk = (fork(0, (1,), (1, (inner, say(2, 0, 7))), (2, (say(1, 2, 6),))),)
        self.assertEqual(acts(talk, 2), (hear(1, (4, (tell(0, 7),)), (6, ()), (8, (tell(1, 3), tell(0, 7)))),))
        # 4 in both branches, with another thing to do behind it.
        self.refused((fork(0, (1,), (1, (inner, say(2, 0, 7))), (2, (say(1, 2, 4),))),), (0,), 2)
        self.assertEqual(acts((fork(0, (1,), (1, (inner, say(2, 0, 7))), (2, (say(1, 2, 4), say(2, 0, 7)))),), 2),
                         (hear(1, (4, (tell(0, 7),)), (8, (tell(1, 3), tell(0, 7)))),))

    def test_a_heed_within_a_fork(self):
        rounds = again(1, (2,), 8, (say(2, 1, 3),), 4)
        heed = ("heed", 1, 8, (tell(1, 3),), 4)
        talk = (fork(0, (1,), (1, (rounds, say(2, 0, 7))), (2, (say(1, 2, 6),))), say(2, 0, 9))
        self.assertEqual(acts(talk, 2), (hear(1, (4, (tell(0, 7),)), (6, ()), (8, (tell(1, 3), heed, tell(0, 7)))),
                                         tell(0, 9)))
        # The same round in both branches, and one that goes on with something else.
        both = (fork(0, (1,), (1, (rounds,)), (2, (say(0, 1, 5), rounds))),)
        self.assertEqual(acts(both, 2), (hear(1, (4, ()), (8, (tell(1, 3), heed))),))
        self.refused((fork(0, (1,), (1, (rounds, say(2, 0, 7))), (2, (rounds,))),), (0,), 2)
        self.refused((fork(0, (1,), (1, (rounds,)), (2, (again(1, (2,), 4, (), 8),))),), (0,), 2)

    def test_a_heed_behind_the_first_act_stays(self):
        rounds = again(1, (2,), 8, (), 4)
        talk = (fork(0, (1,), (1, (say(1, 2, 5), rounds)), (2, (say(1, 2, 6),))),)
        self.assertEqual(acts(talk, 2), (hear(1, (5, (("heed", 1, 8, (), 4),)), (6, ())),))

    def test_two_hands_that_are_not_told(self):
        talk = (fork(0, (1,), (1, (say(1, 2, 5), say(2, 3, 1))), (2, (say(1, 2, 6), say(2, 3, 2)))),)
        self.assertEqual(acts(talk, 2), (hear(1, (5, (tell(3, 1),)), (6, (tell(3, 2),))),))
        self.assertEqual(acts(talk, 3), (hear(2, (1, ()), (2, ())),))

    def test_forks_within_forks(self):
        inner = fork(1, (0,), (1, (say(1, 2, 5),)), (2, (say(1, 2, 6), say(2, 0, 1))))
        talk = (fork(0, (1,), (3, (inner,)), (4, (say(1, 2, 7),))),)
        self.assertEqual(acts(talk, 2), (hear(1, (5, ()), (6, (tell(0, 1),)), (7, ())),))


class FirstThatCantKnow(Acts):
    BAD = fork(0, (1,), (1, (say(2, 1, 5),)), (2, ()))

    def test_the_first_line(self):
        self.refused((say(0, 1, 1), self.BAD, self.BAD), (1,), 2)
        worse = fork(0, (1,), (1, (say(3, 1, 5),)), (2, ()))
        self.refused((worse, self.BAD), (0,), 3)
        self.refused((self.BAD, worse), (0,), 2)

    def test_lines_within_a_line_ahead_of_it(self):
        # Around it neither 3 can know, but what can't be known within goes ahead.
        inner = again(0, (1,), 1, (self.BAD,), 2)
        self.refused((inner,), (0, 0, 0), 2)
        self.refused((fork(0, (1, 2), (1, ()), (2, (say(0, 1, 1), self.BAD)), (3, (say(3, 1, 5),))),), (0, 1, 1), 2)
        self.refused((fork(0, (1,), (1, (say(3, 1, 5),)), (2, (self.BAD,))), self.BAD), (0, 1, 0), 2)
        self.refused((fork(0, (1,), (1, (say(2, 1, 5),)), (2, (again(0, (1,), 1, (say(3, 1, 1),), 2),))),),
                     (0, 1, 0), 3)

    def test_the_least_hand(self):
        both = fork(0, (1,), (1, (say(3, 1, 5), say(2, 1, 5))), (2, ()))
        self.refused((both,), (0,), 2)
        self.refused((fork(3, (1,), (1, (say(2, 1, 5), say(0, 1, 5))), (2, ())),), (0,), 0)
        self.refused((again(1, (3,), 1, (say(2, 1, 5), say(0, 1, 5)), 2),), (0,), 0)

    def test_the_first_line_ahead_of_the_least_hand(self):
        self.refused((fork(0, (1,), (1, (say(3, 1, 5),)), (2, ())), fork(1, (2,), (1, (say(0, 1, 5),)), (2, ()))),
                     (0,), 3)


class Refused(unittest.TestCase):
    def test_no_talk(self):
        cant_know = fork(0, (1,), (1, (say(2, 1, 5),)), (2, ()))
        for talk, spot in ((None, ()), ([], ()), ((say(0, 0, 1),), (0,)), ((cant_know, say(0, 0, 1)), (1,)),
                           ((say(0, 1, 1),) * 41, ()), ((cant_know,) * 25, ())):
            for ask in (lambda: acts(talk, 0), lambda: cut(talk, 0), lambda: program_of(talk, 1),
                        lambda: program_of(talk, 99)):
                with self.assertRaises(NoTalk) as caught:
                    ask()
                self.assertEqual(caught.exception.spot, spot)

    def no_program(self, talk, room):
        with self.subTest(talk=talk, room=room):
            with self.assertRaises(NoProgram) as caught:
                program_of(talk, room)
            self.assertEqual((caught.exception.role, caught.exception.place), (-1, -1))

    def test_no_room(self):
        for room in (0, 11, -1, None, True, "1", (1,), 1.0):
            self.no_program((say(0, 1, 1),), room)
        for room in range(1, 11):
            self.assertEqual(program_of((say(0, 1, 1),), room)[0], room)

    def test_no_hand(self):
        self.no_program((), 1)

    def test_a_part_of_more_than_sixty_steps(self):
        # Twenty agains, of each six tells.
        self.no_program(tuple(again(0, (1, 2, 3), 1, (), 2) for each in range(20)), 1)
        self.no_program((say(0, 1, 1),) * 40, 1)


class Parts(unittest.TestCase):
    def units(self, told):
        """How many acts, rows and branches there are; a round has two branches, a heed two rows."""
        count = 0
        for act in told:
            if act[0] == "tell":
                count += 1
            elif act[0] == "hear":
                count += 1 + sum(1 + self.units(behind) for kind, behind in act[2])
            elif act[0] == "pick":
                count += 1 + sum(1 + self.units(some) for some in act[1])
            elif act[0] == "round":
                count += 3 + self.units(act[1]) + self.units(act[2])
            else:
                count += 3 + self.units(act[3])
        return count

    def good_parts(self, talk):
        """That parts are steps, and short enough where they must be; the program, or None where it is too long."""
        hands = hands_in(talk)
        counts = (1,) * hands
        for hand in range(hands):
            part = cut(talk, hand)
            self.assertIs(type(part), tuple)
            if self.units(acts(talk, hand)) <= 24:
                self.assertLessEqual(len(part), 60)
            for step in part:
                self.assertEqual(step_of(step, len(part), counts).told(), step)
        if hands == 0 or max(len(cut(talk, hand)) for hand in range(hands)) > 60:
            return None
        program = program_of(talk, 3)
        look_over(program)
        self.assertEqual(program, (3, (0, 0), tuple(cut(talk, hand) for hand in range(hands)), tuple(range(hands))))
        return program

    def test_no_acts(self):
        for talk in ((), (say(0, 1, 5),), (again(0, (1,), 1, (), 2),)):
            self.assertEqual(cut(talk, 2), ())
            self.assertEqual(cut(talk, 3), ())

    def test_a_hand_that_nobody_names(self):
        program = self.good_parts((say(0, 2, 5),))
        self.assertEqual((program[2][1], program[3]), ((), (0, 1, 2)))

    def test_24_of_the_longest(self):
        # Tells, hears of one row, picks of two and of five branches, rounds, heeds, in every mixture.
        for lines in ((say(0, 1, 1),), (fork(0, (1,), (1, ()), (2, ())),), (again(0, (1,), 1, (), 2),),
                      (fork(0, (1,), *[(kind, ()) for kind in range(1, 6)]),), (say(0, 1, 1), say(1, 0, 1)),
                      (again(0, (1,), 1, (say(1, 0, 2),), 2),), (fork(0, (1, 2, 3), (1, (say(1, 0, 3),)), (2, ())),)):
            for count in range(1, 13):
                for hand in range(2):
                    if self.units(acts(lines * count, hand)) <= 24:
                        self.assertLessEqual(len(cut(lines * count, hand)), 60)
        twenty_four = (say(0, 1, 1),) * 24
        self.assertEqual(self.units(acts(twenty_four, 0)), 24)
        self.assertIsNotNone(self.good_parts((say(0, 1, 1),) * 12))

    def test_by_chance(self):
        chance = random.Random(53)
        seen = {"program": 0, "long": 0, "can't know": 0}
        for turn in range(600):
            talk = some_whole_talk(chance)
            try:
                program = self.good_parts(talk)
                seen["program" if program else "long"] += 1
            except CantKnow:
                seen["can't know"] += 1
            except NoTalk as error:
                self.assertEqual(error.spot, ())
        self.assertTrue(seen["program"] > 200 and seen["can't know"] > 20, seen)


class Unchanged(unittest.TestCase):
    def test_answers_are_plain_tuples(self):
        talk = (fork(0, (1,), (1, (say(1, 2, 5),)), (2, (again(1, (2,), 6, (), 7),))),)
        self.assertEqual(acts(talk, 2), acts(changed(talk, (0,), talk[0]), 2))
        self.assertEqual(hash(program_of(talk, 2)), hash(program_of(talk, 2)))


if __name__ == "__main__":
    unittest.main()
