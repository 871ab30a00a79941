import random
import unittest

from letterall.comings import look
from letterall.deeds import do, moves
from letterall.errors import NoClaim, NoProgram
from letterall.ranks import count_fault
from letterall.runs import walk
from letterall.worlds import first
from tests.samples import (BELL, changed, mine, pairs_by_slow_going, slow_count_fault, some_program, some_test,
                           some_world, with_truths, world_of)

NEVER = ("letters", 12, 1, None)
ALWAYS = ("not", NEVER)


def at(place, low=1, role=0):
    return ("count", role, ("at", place), low, None)


# One hand that rings twice: it owes until it is at its end.
TWICE = (1, (0, 0), ((BELL, BELL),), (0,))
TO_THE_END = ("comes", ALWAYS, at(2))
WORLDS = walk(TWICE, [("do", 0, 0)] * 2)
GOOD = [(WORLDS[0], True, 2, 0), (WORLDS[1], True, 1, 0), (WORLDS[2], False, 0, -1)]


class Counts(unittest.TestCase):
    def tells(self, program, claim, counts, told):
        with self.subTest(counts=counts):
            found = count_fault(program, claim, counts)
            self.assertEqual(found, told)
            self.assertEqual([type(each) for each in found or ()], [type(each) for each in told or ()])


class WithoutFault(Counts):
    def test_told_out(self):
        self.tells(TWICE, TO_THE_END, GOOD, None)
        self.tells(TWICE, TO_THE_END, tuple(GOOD), None)
        self.tells(TWICE, TO_THE_END, GOOD[::-1], None)

    def test_what_is_free(self):
        # Counts and hands of what does not owe; counts that fall by more than one; rows that no run comes to.
        for count, hand in ((0, -1), (9, -1), (0, 0), (10 ** 59, 0)):
            self.tells(TWICE, TO_THE_END, GOOD[:2] + [(WORLDS[2], False, count, hand)], None)
        self.tells(TWICE, TO_THE_END, [changed(GOOD[0], (2,), 10 ** 59), changed(GOOD[1], (2,), 77), GOOD[2]], None)
        elsewhere = (world_of([mine(2, (5, 0, 0))]), False, 0, -1)
        self.tells(TWICE, TO_THE_END, GOOD + [elsewhere], None)

    def test_a_hand_that_leads_out(self):
        # Hand 0 goes round for ever, hand 1 rings in the end.
        program = (1, (0, 0), ((("go", 1), ("go", 0)), (BELL,)), (0, 1))
        claim = ("comes", ALWAYS, at(1, role=1))

        def row(place, other, count, hand):
            return (world_of([mine(place), mine(other, bell=other == 1)]), other == 0, count, hand)
        ended = [row(0, 1, 0, -1), row(1, 1, 0, -1)]
        self.tells(program, claim, [row(0, 0, 1, 1), row(1, 0, 1, 1)] + ended, None)
        self.tells(program, claim, [row(0, 0, 1, 0), row(1, 0, 1, 0)] + ended, ("stays", 0))
        self.tells(program, claim, [row(0, 0, 2, 0), row(1, 0, 1, 1)] + ended, ("grows", 1))
        self.tells(program, claim, [row(0, 0, 1, 0), row(1, 0, 2, 1)] + ended, ("grows", 0))
        self.tells(program, claim, [row(0, 0, 1, 1), row(1, 0, 1, 0)] + ended, ("grows", 0))

    def test_nothing_that_is_handed_in_is_changed(self):
        counts = list(GOOD)
        count_fault(TWICE, TO_THE_END, counts)
        self.assertEqual(counts, GOOD)


class Form(Counts):
    def wrong(self, row):
        for number in range(3):
            counts = list(GOOD)
            counts[number] = row
            self.tells(TWICE, TO_THE_END, counts, ("form", number))
            self.tells(TWICE, TO_THE_END, tuple(counts), ("form", number))

    def test_rows(self):
        row = GOOD[1]
        for thing in (None, 0, True, "row", (), [], {}, list(row), row[:3], row + (0,), (row,)):
            self.wrong(thing)

    def test_worlds(self):
        for thing in (None, 0, (), list(WORLDS[1]), changed(WORLDS[1], (0, 0, 0), 3), changed(WORLDS[1], (2,), (0, 1)),
                      changed(WORLDS[1], (0, 0, 1), ((1, 1),) * 3), changed(WORLDS[1], (0, 0, 4), 1),
                      *with_truths(WORLDS[1])):
            self.wrong((thing,) + GOOD[1][1:])

    def test_bits_counts_and_hands(self):
        for bit in (0, 1, None, "yes", ()):
            self.wrong(changed(GOOD[1], (1,), bit))
        for count in (-1, True, False, None, "1", (1,), 1.0):
            self.wrong(changed(GOOD[1], (2,), count))
        for hand in (-2, 1, True, False, None, "0", (0,), 0.0):
            self.wrong(changed(GOOD[1], (3,), hand))

    def test_a_world_and_bit_of_a_row_ahead(self):
        for number, row in enumerate(GOOD):
            for again in (row, changed(row, (2,), 5), changed(row, (3,), -1)):
                self.tells(TWICE, TO_THE_END, GOOD + [again], ("form", 3))
                if number > 0:
                    self.tells(TWICE, TO_THE_END, [again] + GOOD, ("form", number + 1))
        # The same world with the other bit is another pair.
        self.tells(TWICE, TO_THE_END, GOOD + [(WORLDS[1], False, 0, -1)], None)

    def test_the_first_of_bad_form_ahead_of_all_else(self):
        self.tells(TWICE, TO_THE_END, [(WORLDS[1], True, 0, -1), GOOD[2], None, None], ("form", 2))


class First(Counts):
    def test_no_rows(self):
        for counts in ([], (), None, 0, True, "", "abc", {}, {GOOD[0]: 1}, 1.5):
            self.tells(TWICE, TO_THE_END, counts, ("first",))

    def test_the_first_world_with_its_bit(self):
        self.tells(TWICE, TO_THE_END, GOOD[1:], ("first",))
        self.tells(TWICE, TO_THE_END, [changed(GOOD[0], (1,), False)] + GOOD[1:], ("first",))
        free = ("comes", at(1), at(2))
        self.tells(TWICE, free, GOOD, ("first",))
        self.tells(TWICE, free, [changed(GOOD[0], (1,), False)] + GOOD[1:], None)

    def test_ahead_of_what_comes_row_by_row(self):
        self.tells(TWICE, TO_THE_END, [(WORLDS[1], True, 0, -1)], ("first",))


class RowByRow(Counts):
    def test_list(self):
        self.tells(TWICE, TO_THE_END, GOOD[:2], ("list", 1))
        self.tells(TWICE, TO_THE_END, [GOOD[0], GOOD[2]], ("list", 0))
        self.tells(TWICE, TO_THE_END, [GOOD[0], GOOD[2], GOOD[1]], None)
        # With the other bit it is not the pair that the move leads to.
        self.tells(TWICE, TO_THE_END, [GOOD[0], changed(GOOD[1], (1,), False), GOOD[2]], ("list", 0))
        self.tells(TWICE, TO_THE_END, GOOD[:2] + [changed(GOOD[2], (1,), True)], ("list", 1))
        # It is asked of rows that owe nothing, too.
        self.tells(TWICE, ("comes", NEVER, NEVER), [(WORLDS[0], False, 0, -1)], ("list", 0))

    def test_list_by_losses_and_falls(self):
        program = (1, (0, 1), ((BELL,),), (0,))
        claim = ("comes", NEVER, NEVER)
        pairs = pairs_by_slow_going(program, claim, 10, lambda world: moves(program, world))[1]
        counts = [(world, bit, 0, -1) for world, bit in pairs]
        self.tells(program, claim, counts, None)
        for missing in range(1, len(counts)):
            self.assertEqual(count_fault(program, claim, counts[:missing] + counts[missing + 1:])[0], "list")

    def test_hand(self):
        for row in (changed(GOOD[0], (2,), 0), changed(GOOD[0], (3,), -1)):
            self.tells(TWICE, TO_THE_END, [row] + GOOD[1:], ("hand", 0))
            self.tells(TWICE, TO_THE_END, GOOD[1:] + [row], ("hand", 2))
        # A hand that waits, and one at its end.
        program = (1, (0, 0), ((BELL,), (("take", -1, ((1, 0, 0, 1, 1),)),), ()), (0, 1, 2))
        claim = ("comes", ALWAYS, at(1))
        start = first(program)
        after = do(program, start, ("do", 0, 0))
        for hand, told in ((0, None), (1, ("hand", 0)), (2, ("hand", 0)), (-1, ("hand", 0))):
            self.tells(program, claim, [(start, True, 1, hand), (after, False, 0, -1)], told)

    def test_nobody_does_losses_and_falls(self):
        # At the second world only a loss and a fall may come: no hand is right there, -1 neither.
        program = (1, (1, 1), ((("me", 0), ("send", 0, 1, 0, 0)),), (0,))
        claim = ("comes", ALWAYS, ("count", 0, ("fallen",), 1, None))
        pairs = pairs_by_slow_going(program, claim, 50, lambda world: moves(program, world))[1]
        counts = [(world, bit, 9 - number, 0) for number, (world, bit) in enumerate(pairs)]
        stuck = [number for number, (world, bit) in enumerate(pairs)
                 if bit and not [move for move in moves(program, world) if move[0] == "do"]]
        self.tells(program, claim, counts, ("hand", stuck[0]))
        counts[stuck[0]] = counts[stuck[0]][:3] + (-1,)
        self.tells(program, claim, counts, ("hand", stuck[0]))

    def test_grows(self):
        self.tells(TWICE, TO_THE_END, [changed(GOOD[0], (2,), 1), changed(GOOD[1], (2,), 2), GOOD[2]], ("grows", 0))
        # Two hands ring; at first hand 1 is due, and it stays due where hand 0 rang.
        program = (1, (0, 0), ((BELL,),), (0, 0))
        claim = ("comes", ALWAYS, at(1, 2))
        start = first(program)
        one, other = do(program, start, ("do", 0, 0)), do(program, start, ("do", 1, 0))
        both = (do(program, one, ("do", 1, 0)), False, 0, -1)
        for ahead, behind_0, behind_1, told in ((2, 1, 1, None), (2, 2, 1, None), (1, 1, 2, ("grows", 0)),
                                                (1, 2, 1, ("grows", 0)), (3, 4, 1, ("grows", 0))):
            rows = [(start, True, ahead, 1), (one, True, behind_0, 1), (other, True, behind_1, 0), both]
            self.tells(program, claim, rows, told)
        # Of one count with another hand, also by a move of the hand itself.
        self.tells(program, claim, [(start, True, 1, 1), (one, True, 1, 1), (other, True, 1, 0), both], ("grows", 0))
        self.tells(program, claim, [(start, True, 1, 1), (one, True, 1, 1), (other, True, 1, 1), both], ("stays", 0))

    def test_by_a_loss_or_a_fall_too(self):
        program = (1, (0, 1), ((BELL,), (BELL,)), (0, 1))
        claim = ("comes", ALWAYS, ("either", at(1), ("count", 0, ("fallen",), 1, None)))
        pairs = pairs_by_slow_going(program, claim, 50, lambda world: moves(program, world))[1]
        good = [(world, bit, int(bit), 0 if bit else -1) for world, bit in pairs]
        self.tells(program, claim, good, None)
        fallen = [number for number, (world, bit) in enumerate(pairs) if bit and world[0][1][0] == -1]
        self.assertEqual(len(fallen), 1)
        self.tells(program, claim, [changed(row, (2,), 2) if number in fallen else row
                                    for number, row in enumerate(good)], ("grows", 0))

    def test_stays(self):
        self.tells(TWICE, TO_THE_END, [changed(GOOD[0], (2,), 1)] + GOOD[1:], ("stays", 0))
        program = (1, (0, 0), ((("go", 0),),), (0,))
        self.tells(program, ("comes", ALWAYS, NEVER), [(first(program), True, 1, 0)], ("stays", 0))

    def test_the_order_at_one_row(self):
        # A row with all faults: list goes ahead of hand, hand of grows, grows of stays.
        program = (1, (0, 0), ((("choose", 0, 2), BELL),), (0,))
        claim = ("comes", ALWAYS, at(2))
        start = first(program)
        one, other = [do(program, start, ("do", 0, number)) for number in (0, 1)]
        ends = [(do(program, world, ("do", 0, 0)), False, 0, -1) for world in (one, other)]
        self.tells(program, claim, [(start, True, 0, -1), (one, True, 1, 0)] + ends, ("list", 0))
        self.tells(program, claim, [(start, True, 0, -1), (one, True, 1, 0), (other, True, 1, 0)] + ends, ("hand", 0))
        self.tells(program, claim, [(start, True, 1, 0), (one, True, 1, 0), (other, True, 2, 0)] + ends, ("grows", 0))
        self.tells(program, claim, [(start, True, 1, 0), (one, True, 2, 0), (other, True, 1, 0)] + ends, ("grows", 0))
        self.tells(program, claim, [(start, True, 2, 0), (one, True, 2, 0), (other, True, 1, 0)] + ends, ("stays", 0))
        self.tells(program, claim, [(start, True, 2, 0), (one, True, 1, 0), (other, True, 1, 0)] + ends, None)

    def test_row_by_row(self):
        self.tells(TWICE, TO_THE_END, [changed(GOOD[0], (2,), 1), changed(GOOD[1], (2,), 0), GOOD[2]], ("hand", 1))
        self.tells(TWICE, TO_THE_END, [changed(GOOD[0], (2,), 0), changed(GOOD[1], (2,), 0), GOOD[2]], ("hand", 0))
        self.tells(TWICE, TO_THE_END, [changed(GOOD[0], (2,), 1), GOOD[1]], ("stays", 0))
        self.tells(TWICE, TO_THE_END, [GOOD[1], changed(GOOD[0], (2,), 1)], ("list", 0))


class Refused(unittest.TestCase):
    def test_no_program(self):
        for claim in (TO_THE_END, None, ("never", NEVER), ("comes",)):
            for counts in (GOOD, None):
                with self.assertRaises(NoProgram) as caught:
                    count_fault((1, (0, 0), ((BELL, ("go", 7)),), (0,)), claim, counts)
                self.assertEqual((caught.exception.role, caught.exception.place), (0, 1))
                with self.assertRaises(NoProgram) as caught:
                    count_fault((0, (0, 0), ((),), (0,)), claim, counts)
                self.assertEqual((caught.exception.role, caught.exception.place), (-1, -1))

    def test_no_claim(self):
        for claim in (None, (), ("comes",), ["comes", NEVER, NEVER], ("comes", NEVER, at(0, role=1)), ("comes", NEVER),
                      ("never", NEVER), ("behind", NEVER, NEVER)):
            for counts in (GOOD, None, [None]):
                with self.assertRaises(NoClaim):
                    count_fault(TWICE, claim, counts)


class ManyCounts(unittest.TestCase):
    def some_change(self, chance, program, counts):
        """The counts with one row changed, taken away or added; their form stays good."""
        number = chance.randrange(len(counts))
        world, bit, count, hand = counts[number]
        what = chance.randrange(6)
        if what == 0:
            count = max(0, count + chance.choice((-1, 1)))
        elif what == 1:
            count = chance.choice(counts)[2]
        elif what == 2:
            hand = chance.randrange(-1, len(program[3]))
        elif what == 3:
            return counts[:number] + counts[number + 1:]
        elif what == 4:
            pair = (some_world(chance, program), chance.random() < 0.5)
            return counts + [(*pair, 1, 0)] if pair not in {row[:2] for row in counts} else counts
        else:
            counts = list(counts)
            chance.shuffle(counts)
            return counts
        return counts[:number] + [(world, bit, count, hand)] + counts[number + 1:]

    def some_program_and_claim(self, chance):
        program = some_program(chance, chance.choice(((0, 0, 1), (0, 1), (0, 0), (1,))), 2, (1, 4),
                               chance.choice(((0, 0), (0, 0), (1, 0), (0, 1))), chance.random() < 0.3)
        p = chance.choice((ALWAYS, some_test(chance, 2)))
        q = chance.choice((at(chance.randint(1, 4), role=chance.randrange(2)), some_test(chance, 2)))
        return program, ("comes", p, q)

    def test_by_chance(self):
        chance = random.Random(48)
        seen = {}
        for turn in range(700):
            program, claim = self.some_program_and_claim(chance)
            told = look(program, claim, 60)
            if told[0] != "comes" or [row[1] for row in told[1]].count(True) < 2:
                continue
            self.assertIsNone(count_fault(program, claim, told[1]))
            self.assertIsNone(count_fault(program, claim, tuple(told[1])))
            for each in range(25):
                other = told[1]
                for change in range(chance.randint(1, 2)):
                    other = self.some_change(chance, program, other) or other
                found = count_fault(program, claim, other)
                self.assertEqual(found, slow_count_fault(program, claim, other))
                word = found[0] if found else None
                seen[word] = seen.get(word, 0) + 1
        self.assertEqual(set(seen), {None, "first", "list", "hand", "grows", "stays"})
        self.assertTrue(all(amount >= 10 for amount in seen.values()), seen)

    def test_none_without_fault_where_it_is_stuck_or_there_is_a_ring(self):
        chance = random.Random(49)
        tried = {"stuck": 0, "ring": 0}
        for turn in range(500):
            program, claim = self.some_program_and_claim(chance)
            word = look(program, claim, 40)[0]
            if word not in tried:
                continue
            pairs = pairs_by_slow_going(program, claim, 40, lambda world: moves(program, world))[1]
            for each in range(5):
                counts = [(world, bit, chance.randint(1, 3) if bit else 0,
                           chance.choice([move[1] for move in moves(program, world) if move[0] == "do"] or [-1]))
                          for world, bit in pairs]
                self.assertIsNotNone(count_fault(program, claim, counts))
                tried[word] += 1
        self.assertTrue(all(amount > 100 for amount in tried.values()), tried)


if __name__ == "__main__":
    unittest.main()
