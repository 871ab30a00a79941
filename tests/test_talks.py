import unittest

from letterall.errors import LetterError, NoTalk
from letterall.talks import hands_in, look_over_talk
from tests.samples import changed, with_truths

SAY = ("say", 0, 1, 5)
FORK = ("fork", 0, (1, 2), ((1, ()), (2, (SAY,))))
AGAIN = ("again", 0, (1,), 3, (SAY,), 4)


def nested(deep):
    """A say within so many agains."""
    talk = (SAY,)
    for each in range(deep):
        talk = (("again", 0, (1,), 1, talk, 2),)
    return talk


class Talks(unittest.TestCase):
    def good(self, talk):
        with self.subTest(talk=talk):
            self.assertIsNone(look_over_talk(talk))

    def bad(self, talk, spot):
        with self.subTest(talk=talk):
            for ask in (look_over_talk, hands_in):
                with self.assertRaises(NoTalk) as caught:
                    ask(talk)
                self.assertEqual(caught.exception.spot, spot)
                self.assertIs(type(caught.exception.spot), tuple)
                self.assertIsInstance(caught.exception, LetterError)


class Good(Talks):
    def test_lines(self):
        for talk in ((), (SAY,), (FORK,), (AGAIN,), (SAY, FORK, AGAIN), (("say", 3, 0, 12), ("say", 2, 3, 1)),
                     (("fork", 3, (0, 1, 2), tuple((kind, ()) for kind in (5, 1, 12, 3, 9))),),
                     (("again", 1, (3, 0, 2), 12, (), 1),)):
            self.good(talk)


class NoTuple(Talks):
    def test_what_is_no_tuple(self):
        for thing in (None, 0, True, "talk", [], [SAY], {}, SAY[0], 1.5):
            self.bad(thing, ())


class NoLine(Talks):
    def wrong(self, line):
        """No line, where it stands alone, behind others, and within lines."""
        self.bad((line,), (0,))
        self.bad((SAY, FORK, line, SAY), (2,))
        self.bad((SAY, changed(FORK, (3, 1, 1), (SAY, line))), (1, 1, 1))
        self.bad((changed(AGAIN, (4,), (line,)),), (0, 0, 0))
        self.bad((SAY, changed(AGAIN, (4,), (SAY, changed(FORK, (3, 0, 1), (line,))))), (1, 0, 1, 0, 0))

    def test_things(self):
        for thing in (None, 0, True, "say", (), [], list(SAY), (0, 1, 2, 3), ("tell", 0, 1, 5), ("",), (None, 0, 1, 5),
                      ((), 0, 1, 5), ([], 0, 1, 5), ({}, 0, 1, 5), (SAY,), ("Say", 0, 1, 5)):
            self.wrong(thing)

    def test_says(self):
        for thing in (SAY[:3], SAY + (1,), ("say", 0, 0, 5), ("say", 3, 3, 5), ("say", -1, 1, 5), ("say", 4, 1, 5),
                      ("say", 0, -1, 5), ("say", 0, 4, 5), ("say", 0, 1, 0), ("say", 0, 1, 13), ("say", 0, 1, -5),
                      ("say", 0, (1,), 5), ("say", None, 1, 5), ("say", 0, "1", 5), ("say", 0, 1, None),
                      ("say", 0.0, 1, 5), *with_truths(("say", 0, 1, 1)), *with_truths(("say", 1, 0, 5))):
            self.wrong(thing)

    def test_hands_of_forks_and_agains(self):
        for line in (FORK, AGAIN):
            for sender in (-1, 4, 1, None, True, (0,)):
                self.wrong(changed(line, (1,), sender))
            for tos in ((), (0,), (1, 0), (1, 1), (1, 2, 1), (1, 2, 3, 1), (4,), (-1,), 1, [1], (True,), (None,), None,
                        (1, 2, 3, 0), ((1,),)):
                self.wrong(changed(line, (2,), tos))
            self.wrong(line[:-1])
            self.wrong(line + ((),))

    def test_branches(self):
        for branches in ((), ((1, ()),), tuple((kind, ()) for kind in range(1, 7)), ((1, ()), (1, ())),
                         ((1, ()), (2, ()), (1, (SAY,))), [(1, ()), (2, ())], None, 5, ((1, ()), [2, ()]), ((1, ()), (2,)),
                         ((1, ()), (2, (), ())), ((1, ()), (0, ())), ((1, ()), (13, ())), ((True, ()), (2, ())),
                         ((1, ()), (None, ())), ((1, ()), None), ((1, ()), ())):
            self.wrong(changed(FORK, (3,), branches))

    def test_kinds_of_agains(self):
        for more, on in ((3, 3), (0, 4), (13, 4), (3, 0), (3, 13), (True, 4), (3, True), (None, 4), (3, "4")):
            self.wrong(changed(changed(AGAIN, (3,), more), (5,), on))

    def test_a_talk_within_that_is_no_tuple_makes_its_line_none(self):
        for thing in (None, 0, True, [], [SAY], "()"):
            self.wrong(changed(FORK, (3, 0, 1), thing))
            self.wrong(changed(FORK, (3, 1, 1), thing))
            self.wrong(changed(AGAIN, (4,), thing))

    def test_the_first_spot_a_line_ahead_of_those_within_it(self):
        bad = ("say", 0, 0, 5)
        self.bad((SAY, bad, bad), (1,))
        within = changed(FORK, (3, 1, 1), (bad,))
        self.bad((within, bad), (0, 1, 0))
        self.bad((changed(within, (3, 0, 1), (SAY, bad)), bad), (0, 0, 1))
        # The fork itself is none: that goes ahead of what stands in it.
        self.bad((changed(within, (2,), ()), bad), (0,))
        self.bad((changed(within, (3, 0, 1), None), bad), (0,))
        self.bad((changed(AGAIN, (4,), (within, bad)), bad), (0, 0, 0, 1, 0))
        deep = changed(FORK, (3, 0, 1), (SAY, changed(AGAIN, (4,), (SAY, SAY, bad))))
        self.bad((deep, bad), (0, 0, 1, 0, 2))


class TooLarge(Talks):
    def test_lines_in_all(self):
        self.good((SAY,) * 40)
        self.bad((SAY,) * 41, ())
        for count, within in ((39, 0), (30, 9), (1, 38)):
            self.good((SAY,) * count + (changed(AGAIN, (4,), (SAY,) * within),))
            self.bad((SAY,) * count + (changed(AGAIN, (4,), (SAY,) * (within + 1)),), ())
        self.bad((SAY,) * 30 + (("fork", 0, (1,), ((1, (SAY,) * 5), (2, (SAY,) * 5))),), ())
        self.good((SAY,) * 29 + (("fork", 0, (1,), ((1, (SAY,) * 5), (2, (SAY,) * 5))),))

    def test_lines_within_others(self):
        for deep in range(5):
            self.good(nested(deep))
        for deep in (5, 6, 7, 20):
            self.bad(nested(deep), ())
        # An again of nothing, within five: it is the line that counts, not its talk.
        self.good((("again", 0, (1,), 1, nested(3), 2),))
        empty = (("again", 0, (1,), 1, (), 2),)
        for each in range(4):
            empty = (("fork", 0, (1,), ((1, ()), (2, empty))),)
        self.good(empty)
        self.bad((("fork", 0, (1,), ((1, empty), (2, ()))),), ())

    def test_what_is_no_line_goes_ahead(self):
        bad = ("say", 0, 0, 5)
        self.bad((SAY,) * 45 + (bad,), (45,))
        talk = (bad,)
        for each in range(6):
            talk = (("again", 0, (1,), 1, talk, 2),)
        self.bad(talk, (0,) * 13)


class Hands(unittest.TestCase):
    def test_one_more_than_the_greatest(self):
        for talk, count in (((), 0), ((SAY,), 2), ((("say", 1, 0, 5),), 2), ((("say", 0, 3, 1),), 4), ((FORK,), 3),
                            ((("say", 2, 1, 1),), 3), ((changed(FORK, (3, 1, 1), (("say", 3, 0, 1),)),), 4),
                            ((changed(AGAIN, (4,), ()),), 2), ((changed(AGAIN, (4,), (FORK,)),), 3),
                            ((("fork", 1, (0,), ((1, ()), (2, ()))),), 2),
                            ((("again", 0, (1, 3, 2), 1, (), 2),), 4)):
            self.assertEqual(hands_in(talk), count)


if __name__ == "__main__":
    unittest.main()
