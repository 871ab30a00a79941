import random
import unittest

from letterall.cuts import program_of
from letterall.deeds import do, moves
from letterall.errors import LetterError
from letterall.follows import follow, left
from letterall.programs import step_at
from letterall.runs import run
from letterall.talks import named_in
from letterall.worlds import first
from tests.samples import some_whole_talk


def say(sender, to, kind):
    return ("say", sender, to, kind)


FORK = ("fork", 0, (1, 2), ((7, (say(1, 0, 4),)), (3, ())))
AGAIN = ("again", 0, (1, 2), 5, (say(1, 2, 6),), 8)
LETTERS = [(sender, to, kind) for sender in range(4) for to in range(4) if sender != to for kind in range(1, 13)]


class Follow(unittest.TestCase):
    def due(self, talk, expected):
        """Just which letters are due, with what is left behind each."""
        with self.subTest(talk=talk):
            found = {letter: follow(talk, letter) for letter in LETTERS}
            self.assertEqual({letter: rest for letter, rest in found.items() if rest is not None}, expected)

    def test_nothing_is_left_to_say(self):
        self.due((), {})

    def test_say(self):
        self.due((say(0, 1, 5),), {(0, 1, 5): ()})
        self.due((say(0, 1, 5), say(0, 1, 6)), {(0, 1, 5): (say(0, 1, 6),)})

    def test_lines_passed_over(self):
        # A letter is due where no line ahead of it names its sender.
        self.due((say(0, 1, 5), say(2, 3, 6)), {(0, 1, 5): (say(2, 3, 6),), (2, 3, 6): (say(0, 1, 5),)})
        self.due((say(0, 1, 5), say(1, 2, 6)), {(0, 1, 5): (say(1, 2, 6),)})
        # To whom it goes may be named ahead of it.
        self.due((say(0, 1, 5), say(2, 1, 6)), {(0, 1, 5): (say(2, 1, 6),), (2, 1, 6): (say(0, 1, 5),)})
        self.due((say(0, 1, 5), say(2, 0, 6)), {(0, 1, 5): (say(2, 0, 6),), (2, 0, 6): (say(0, 1, 5),)})
        self.due((say(0, 1, 5), say(0, 2, 6), say(3, 1, 7)),
                 {(0, 1, 5): (say(0, 2, 6), say(3, 1, 7)), (3, 1, 7): (say(0, 1, 5), say(0, 2, 6))})

    def test_fork(self):
        self.due((FORK,), {(0, 1, 7): (say(0, 2, 7), say(1, 0, 4)), (0, 1, 3): (say(0, 2, 3),)})
        self.due((FORK, say(0, 1, 9), say(3, 0, 1)),
                 {(0, 1, 7): (say(0, 2, 7), say(1, 0, 4), say(0, 1, 9), say(3, 0, 1)),
                  (0, 1, 3): (say(0, 2, 3), say(0, 1, 9), say(3, 0, 1)), (3, 0, 1): (FORK, say(0, 1, 9))})
        self.due((("fork", 2, (3, 0, 1), ((1, ()), (2, ()))),),
                 {(2, 3, 1): (say(2, 0, 1), say(2, 1, 1)), (2, 3, 2): (say(2, 0, 2), say(2, 1, 2))})
        self.due((("fork", 0, (1,), ((1, ()), (2, (FORK,)))),), {(0, 1, 1): (), (0, 1, 2): (FORK,)})

    def test_again(self):
        self.due((AGAIN,), {(0, 1, 5): (say(0, 2, 5), say(1, 2, 6), AGAIN), (0, 1, 8): (say(0, 2, 8),)})
        self.due((say(3, 2, 1), AGAIN, say(2, 1, 1)),
                 {(3, 2, 1): (AGAIN, say(2, 1, 1)),
                  (0, 1, 5): (say(3, 2, 1), say(0, 2, 5), say(1, 2, 6), AGAIN, say(2, 1, 1)),
                  (0, 1, 8): (say(3, 2, 1), say(0, 2, 8), say(2, 1, 1))})
        self.due((("again", 0, (1,), 1, (), 2),), {(0, 1, 1): (("again", 0, (1,), 1, (), 2),), (0, 1, 2): ()})

    def test_whom_a_line_names(self):
        # Who stands among tos, or in a line within, is named.
        for line in (FORK, AGAIN, ("fork", 0, (2,), ((1, (say(1, 0, 4),)), (2, ()))),
                     ("fork", 0, (2,), ((1, ()), (2, (("again", 0, (2,), 1, (say(0, 1, 5),), 2),)))),
                     ("again", 0, (2,), 1, (("fork", 2, (0,), ((1, ()), (2, (say(0, 1, 1),)))),), 2)):
            self.assertIsNone(follow((line, say(1, 3, 9)), (1, 3, 9)))
            self.assertEqual(follow((line, say(3, 1, 9)), (3, 1, 9)), (line,))

    def test_lines_within_are_not_said_first(self):
        self.assertIsNone(follow((FORK,), (1, 0, 4)))
        self.assertIsNone(follow((("fork", 0, (2,), ((1, (say(1, 0, 4),)), (2, ()))),), (1, 0, 4)))
        self.assertIsNone(follow((AGAIN,), (1, 2, 6)))

    def test_however_many_lines_and_however_deep(self):
        talk = (say(0, 1, 1),) * 300 + (say(2, 3, 4),)
        self.assertEqual(follow(talk, (2, 3, 4)), talk[:300])
        self.assertEqual(len(left(talk, [(0, 1, 1)] * 300)), 1)
        deep = (say(0, 1, 1),)
        for each in range(100):
            deep = (("again", 0, (1,), 1, deep, 2),)
        self.assertEqual(follow(deep + (say(2, 3, 4),), (2, 3, 4)), deep)
        rest = left(deep, [(0, 1, 1)] * 101)
        self.assertEqual(len(rest), 100)


class Left(unittest.TestCase):
    def test_rows_of_letters(self):
        talk = (AGAIN, say(0, 3, 1))
        for kind in (list, tuple):
            self.assertEqual(left(talk, kind(())), talk)
            self.assertEqual(left(talk, kind([(0, 1, 5), (0, 2, 5), (1, 2, 6)])), talk)
            self.assertEqual(left(talk, kind([(0, 1, 5), (1, 2, 6), (0, 2, 5)])), talk)
            self.assertEqual(left(talk, kind([(0, 1, 8), (0, 2, 8), (0, 3, 1)])), ())
            self.assertIsNone(left(talk, kind([(0, 1, 8), (0, 3, 1)])))
            self.assertIsNone(left(talk, kind([(0, 1, 9), (0, 1, 5)])))
            self.assertIsNone(left((), kind([(0, 1, 5)])))
        self.assertEqual(left((), ()), ())

    def test_nothing_handed_in_is_changed(self):
        letters = [(0, 1, 5), (0, 2, 5)]
        left((AGAIN,), letters)
        self.assertEqual(letters, [(0, 1, 5), (0, 2, 5)])


def sent_by(program, world, move):
    """The letter that a move sends, None where it sends none."""
    hand = move[1]
    mine = world[0][hand]
    told = step_at(program, hand, mine[0]).told()
    return (hand, mine[2][told[1]], told[2]) if told[0] == "send" else None


def names_others(talk):
    """Whether in a branch of some fork a hand is named that is not told what was chosen."""
    for line in talk:
        inner = [each[1] for each in line[3]] if line[0] == "fork" else [line[4]] if line[0] == "again" else []
        if line[0] == "fork" and set(named_in([each for some in inner for each in some])) - {line[1], *line[2]}:
            return True
        if any(names_others(some) for some in inner):
            return True
    return False


def some_programs(chance, amount):
    """Talks that are not refused, with the amounts of those in which others are named."""
    found = []
    while len(found) < amount:
        talk = some_whole_talk(chance)
        # Half of them shall be such in which others than the told ones must find out what was chosen.
        if len(found) % 2 == 0 and not names_others(talk):
            continue
        try:
            program_of(talk, 1)
            found.append(talk)
        except LetterError:
            pass
    return found


class Runs(unittest.TestCase):
    def all_runs(self, talk, room, most):
        """Goes through the worlds of the talk's program, each with what is left of the talk."""
        program = program_of(talk, room)
        start = (first(program), talk)
        seen, due, ends = {start}, [start], 0
        while due and len(seen) < most:
            world, rest = due.pop()
            may = moves(program, world)
            if not may:
                ends += 1
                self.at_the_end(program, world, rest)
            for move in may:
                letter = sent_by(program, world, move)
                behind = rest if letter is None else follow(rest, letter)
                self.assertIsNotNone(behind, (talk, letter))
                pair = (do(program, world, move), behind)
                if pair not in seen:
                    seen.add(pair)
                    due.append(pair)
        return ends

    def at_the_end(self, program, world, rest):
        for hand, part in enumerate(program[2]):
            self.assertEqual(world[0][hand][0], len(part))
        self.assertEqual([letters for row in world[1] for letters in row if letters], [])
        self.assertEqual(rest, ())

    def test_letters_sent_are_due_and_nobody_stands_still_but_at_the_end(self):
        chance = random.Random(55)
        ended = 0
        for talk in some_programs(chance, 120):
            for room in (1, 2, 10):
                ended += self.all_runs(talk, room, 800) > 0
        self.assertGreater(ended, 200)

    def test_picked_runs(self):
        chance = random.Random(551)
        for talk in some_programs(chance, 60):
            program = program_of(talk, chance.choice((1, 3, 10)))
            made, worlds = run(program, lambda may: chance.randrange(1000), 300)
            letters = [sent_by(program, world, move) for world, move in zip(worlds, made)]
            rest = left(talk, [letter for letter in letters if letter])
            self.assertIsNotNone(rest)
            if not moves(program, worlds[-1]):
                self.at_the_end(program, worlds[-1], rest)

    def due_rows(self, talk, most):
        """All rows of at most so many letters, each due behind those ahead of it."""
        rows, last = {()}, {(): talk}
        for each in range(most):
            last = {row + (letter,): follow(rest, letter) for row, rest in last.items() for letter in LETTERS
                    if letter[2] < 7 and follow(rest, letter) is not None}
            rows |= set(last)
        return rows

    def sent_rows(self, talk, most):
        """All rows of at most so many letters that runs of the talk's program with a room of 10 send."""
        program = program_of(talk, 10)
        start = (first(program), ())
        seen, due = {start}, [start]
        while due:
            world, row = due.pop()
            for move in moves(program, world):
                letter = sent_by(program, world, move)
                pair = (do(program, world, move), row if letter is None else row + (letter,))
                if len(pair[1]) <= most and pair not in seen:
                    seen.add(pair)
                    due.append(pair)
        return {row for world, row in seen}

    def test_every_row_of_letters_that_are_due_is_sent(self):
        chance = random.Random(552)
        for talk in some_programs(chance, 60):
            with self.subTest(talk=talk):
                most = chance.choice((1, 2, 3, 3))
                self.assertEqual(self.sent_rows(talk, most), self.due_rows(talk, most))

    def test_ten_letters_with_a_room_of_ten(self):
        # Hand 0 may say all it has to say ahead of all others.
        talk = (say(0, 1, 1),) * 10
        self.assertIn(((0, 1, 1),) * 10, self.sent_rows(talk, 10))
        rounds = (("again", 0, (1,), 1, (), 2), say(2, 3, 1))
        for count in range(10):
            row = ((0, 1, 1),) * count + ((2, 3, 1),)
            self.assertIsNotNone(left(rounds, row))
            self.assertIn(row, self.sent_rows(rounds, count + 1))


if __name__ == "__main__":
    unittest.main()
