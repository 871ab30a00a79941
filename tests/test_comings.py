import random
import unittest

from letterall.claims import bit_of
from letterall.comings import look
from letterall.deeds import moves
from letterall.errors import NoClaim, NoProgram
from letterall.runs import walk
from letterall.worlds import first, is_world
from tests.samples import BELL, pairs_by_slow_going, slow_count_fault, some_claim, some_program

NEVER = ("letters", 12, 1, None)


def at(place, low=1, role=0):
    return ("count", role, ("at", place), low, None)


def rang(role=0, low=1):
    return ("count", role, BELL, low, None)


ALWAYS = ("not", NEVER)


def bits_along(program, claim, worlds):
    bits, bit = [], False
    for world in worlds:
        bit = bit_of(program, claim, world, bit)
        bits.append(bit)
    return bits


def able_at(program, world):
    return {move[1] for move in moves(program, world) if move[0] == "do"}


class Comings(unittest.TestCase):
    def agrees(self, program, claim, most):
        """That what is told is as the document asks."""
        told = look(program, claim, most)
        self.assertIs(type(told), tuple)
        word, pairs, ways = pairs_by_slow_going(program, claim, most, lambda world: moves(program, world))
        self.assertEqual(told[0] == "more", word == "more")
        if told[0] == "more":
            self.assertEqual(told, ("more",))
            return "more"
        stuck = [len(ways[pair]) for pair in pairs if pair[1] and not able_at(program, pair[0])]
        self.assertEqual(told[0] == "stuck", stuck != [])
        if told[0] == "stuck":
            self.is_stuck(program, claim, told, min(stuck))
        elif told[0] == "ring":
            self.is_ring(program, claim, told)
        else:
            self.comes(program, claim, told, pairs)
        return told[0]

    def is_stuck(self, program, claim, told, shortest):
        word, way = told
        self.assertIs(type(way), list)
        self.assertEqual(len(way), shortest)
        worlds = walk(program, way)
        self.assertIs(bits_along(program, claim, worlds)[-1], True)
        self.assertEqual(able_at(program, worlds[-1]), set())

    def is_ring(self, program, claim, told):
        word, way, round_made = told
        self.assertIs(type(way), list)
        self.assertIs(type(round_made), list)
        self.assertGreaterEqual(len(round_made), 1)
        worlds = walk(program, way + round_made)
        bits = bits_along(program, claim, worlds)
        ring = worlds[len(way):]
        self.assertEqual(ring[0], ring[-1])
        self.assertEqual(set(bits[len(way):]), {True})
        for hand in range(len(program[3])):
            does = any(move[:2] == ("do", hand) for move in round_made)
            self.assertTrue(does or any(hand not in able_at(program, world) for world in ring), hand)

    def comes(self, program, claim, told, pairs):
        word, counts = told
        self.assertEqual(word, "comes")
        self.assertIs(type(counts), list)
        self.assertEqual([row[:2] for row in counts], pairs)
        for world, bit, count, hand in counts:
            self.assertTrue(is_world(program, world))
            self.assertIs(type(count), int)
            self.assertIn(hand, range(-1, len(program[3])))
            self.assertGreaterEqual(count, 0)
        self.assertIsNone(slow_count_fault(program, claim, counts))


class Comes(Comings):
    def test_told_out(self):
        program = (1, (0, 0), ((BELL, BELL),), (0,))
        start = first(program)
        worlds = walk(program, [("do", 0, 0)] * 2)
        self.assertEqual(look(program, ("comes", at(0), at(9)), 10)[0], "stuck")
        told = look(program, ("comes", at(0), at(2)), 10)
        self.assertEqual(told[0], "comes")
        self.assertEqual([row[:2] for row in told[1]], [(start, True), (worlds[1], True), (worlds[2], False)])
        self.assertEqual([row[3] for row in told[1]][:2], [0, 0])
        self.assertTrue(told[1][0][2] > told[1][1][2] > 0)
        self.assertEqual(self.agrees(program, ("comes", at(0), at(2)), 10), "comes")

    def test_where_nothing_owes(self):
        program = (1, (0, 0), ((("go", 0),),), (0, 0))
        for claim in (("comes", at(9), at(8)), ("comes", ALWAYS, ALWAYS), ("comes", NEVER, NEVER),
                      ("comes", at(0), at(0))):
            self.assertEqual(self.agrees(program, claim, 10), "comes")

    def test_a_hand_that_waits_is_done_in_the_end(self):
        # Hand 0 goes round for ever, hand 1 rings: in a fair run it does so.
        program = (1, (0, 0), ((BELL, ("go", 0)), (BELL, BELL)), (0, 1))
        self.assertEqual(self.agrees(program, ("comes", ALWAYS, rang(1)), 100), "comes")
        self.assertEqual(self.agrees(program, ("comes", ALWAYS, at(2, role=1)), 100), "comes")
        # Where hand 0 has rung it goes round, so there hand 1 alone leads on.
        counts = look(program, ("comes", ALWAYS, at(2, role=1)), 100)[1]
        self.assertEqual({hand for world, bit, count, hand in counts if bit and world[0][0][4]}, {1})

    def test_letters_are_taken_in_the_end(self):
        program = (1, (0, 0), ((("only", 0, 1), ("send", 0, 1, 0, 0), ("go", 1)), (("take", -1, ((1, 0, 0, 1, 0),)),)),
                   (0, 1))
        self.assertEqual(self.agrees(program, ("comes", ALWAYS, ("letters", 1, 1, None)), 100), "comes")
        self.assertEqual(self.agrees(program, ("comes", ("letters", 1, 1, None), ("letters", 1, 0, 0)), 100), "comes")

    def test_a_letter_that_a_loss_takes_away(self):
        parts = ((("only", 0, 1), ("send", 0, 1, 0, 0)), (("take", -1, ((1, 0, 0, 1, 1),)),))
        claim = ("comes", ("letters", 1, 1, None), at(1, role=1))
        self.assertEqual(self.agrees((1, (0, 0), parts, (0, 1)), claim, 100), "comes")
        self.assertEqual(self.agrees((1, (1, 0), parts, (0, 1)), claim, 100), "stuck")
        self.assertEqual(look((1, (1, 0), parts, (0, 1)), claim, 100)[1], [("do", 0, 0), ("do", 0, 0), ("lose", 0, 1)])

    def test_losses_and_falls_that_change_nothing(self):
        program = (1, (1, 1), ((BELL,), (BELL,)), (0, 1))
        claim = ("comes", ALWAYS, ("either", rang(0), ("either", rang(1), ("count", 0, ("fallen",), 1, None))))
        self.assertEqual(self.agrees(program, claim, 100), "comes")
        claim = ("comes", ALWAYS, ("either", rang(0), ("count", 0, ("fallen",), 1, None)))
        self.assertEqual(self.agrees(program, claim, 100), "comes")
        self.assertEqual(self.agrees(program, ("comes", ALWAYS, rang(0)), 100), "stuck")


class Stuck(Comings):
    def test_the_first_world(self):
        program = (1, (0, 0), ((),), (0,))
        self.assertEqual(look(program, ("comes", ALWAYS, NEVER), 1), ("stuck", []))

    def test_a_shortest_way(self):
        # One way to the end is of two moves, another of four.
        part = (("choose", 0, 2), ("less", 0, 1, 4), BELL, BELL)
        self.assertEqual(self.agrees((1, (0, 0), (part,), (0,)), ("comes", at(0), at(9)), 100), "stuck")
        self.assertEqual(look((1, (0, 0), (part,), (0,)), ("comes", at(0), at(9)), 100),
                         ("stuck", [("do", 0, 0), ("do", 0, 0)]))
        self.assertEqual(look((1, (0, 0), (part,), (0,)), ("comes", at(2), at(9)), 100),
                         ("stuck", [("do", 0, 1)] + [("do", 0, 0)] * 3))

    def test_where_only_losses_and_falls_may_come(self):
        # Both wait for a letter; losses and falls are not due, so the run may end there.
        taker = (("take", -1, ((1, 0, 0, 1, 1),)),)
        program = (1, (1, 1), ((("only", 0, 1), ("send", 0, 2, 0, 0)), taker), (0, 1))
        self.assertIn(("fall", 0), moves(program, walk(program, [("do", 0, 0)] * 2)[-1]))
        self.assertIn(("lose", 0, 1), moves(program, walk(program, [("do", 0, 0)] * 2)[-1]))
        claim = ("comes", ("letters", 2, 1, None), at(1, role=1))
        self.assertEqual(look(program, claim, 100), ("stuck", [("do", 0, 0), ("do", 0, 0)]))
        self.assertEqual(self.agrees(program, claim, 100), "stuck")

    def test_it_goes_ahead_of_a_ring(self):
        part = (("choose", 0, 2), ("less", 0, 1, 3), ("go", 2), BELL, BELL, BELL)
        program = (1, (0, 0), (part,), (0,))
        self.assertEqual(self.agrees(program, ("comes", at(0), at(9)), 100), "stuck")
        self.assertEqual(self.agrees(program, ("comes", at(0), at(6)), 100), "ring")


class Ring(Comings):
    def test_told_out(self):
        program = (1, (0, 0), ((("go", 0),),), (0,))
        self.assertEqual(look(program, ("comes", at(0), at(1)), 10), ("ring", [], [("do", 0, 0)]))
        program = (1, (0, 0), ((BELL, ("go", 2), ("go", 1)),), (0,))
        self.assertEqual(look(program, ("comes", at(1), at(3)), 10),
                         ("ring", [("do", 0, 0)], [("do", 0, 0), ("do", 0, 0)]))

    def test_each_hand_goes_round(self):
        for hands in ((0, 0), (0, 0, 0), (0,) * 4):
            program = (1, (0, 0), ((("go", 1), ("go", 0)),), hands)
            self.assertEqual(self.agrees(program, ("comes", ALWAYS, NEVER), 100), "ring")

    def test_not_where_a_hand_that_may_always_does_not(self):
        # Only hand 1 can lead out, and it may at every pair.
        program = (1, (0, 0), ((("go", 1), ("go", 0)), (BELL,)), (0, 1))
        self.assertEqual(self.agrees(program, ("comes", ALWAYS, rang(1)), 100), "comes")

    def test_where_a_hand_may_not_now_and_then(self):
        # Hand 1 may take while a letter is on its way, but hand 0 may take it itself again and again.
        ringer = (("me", 0), ("send", 0, 1, 0, 0), ("take", -1, ((1, 0, 1, 2, 1),)))
        program = (1, (0, 0), (ringer, (BELL, ("go", 1))), (0, 1))
        self.assertEqual(self.agrees(program, ("comes", ALWAYS, NEVER), 100), "ring")
        # Hand 0 sends to hand 2, who takes; hand 1, who would take from hand 0, never may.
        waiting = (("take", 0, ((1, 0, 1, 2, 1),)),)
        program = (1, (0, 0), (ringer, waiting), (0, 1))
        told = look(program, ("comes", ALWAYS, at(1, role=1)), 100)
        self.assertEqual(told[0], "ring")
        self.assertEqual(self.agrees(program, ("comes", ALWAYS, at(1, role=1)), 100), "ring")

    def test_a_send_that_is_full_now_and_then(self):
        # Hands 0 and 1 write to hand 2 in turn, who takes from anybody: who may always send does in the end.
        writer = (("only", 0, 1), ("send", 0, 1, 0, 0), ("go", 1))
        program = (1, (0, 0), (writer, (("take", -1, ((1, 0, 0, 1, 0),)),)), (0, 0, 1))
        self.assertEqual(self.agrees(program, ("comes", at(1, 2), ("letters", 1, 1, None)), 300), "comes")
        self.assertEqual(self.agrees(program, ("comes", at(1, 2), ("letters", 1, 3, None)), 300), "ring")

    def test_behind_losses_and_falls(self):
        program = (1, (0, 1), ((("go", 0),), (BELL,)), (0, 1))
        told = look(program, ("comes", ALWAYS, rang(1)), 100)
        self.assertEqual(told[0], "ring")
        self.assertIn(("fall", 1), told[1])
        self.assertEqual(self.agrees(program, ("comes", ALWAYS, rang(1)), 100), "ring")

    def test_owing_again_and_again_is_no_ring_where_it_comes_each_time(self):
        program = (1, (0, 0), ((("go", 1), ("go", 0)),), (0,))
        self.assertEqual(self.agrees(program, ("comes", at(0), at(1)), 100), "comes")
        self.assertEqual(self.agrees(program, ("comes", at(0), at(2)), 100), "ring")


class More(Comings):
    def test_just_as_many_one_less_and_one_more(self):
        program = (1, (0, 0), ((BELL, BELL),), (0, 0))
        for claim, word in ((("comes", at(0), at(2, 2)), "comes"), (("comes", at(0), at(9)), "stuck"),
                            (("comes", at(2), NEVER), "stuck")):
            count = len(pairs_by_slow_going(program, claim, 100, lambda world: moves(program, world))[1])
            self.assertGreaterEqual(count, 9)
            for most, told in ((count, word), (count + 1, word), (count - 1, "more"), (2, "more"), (1, "more")):
                self.assertEqual(self.agrees(program, claim, most), told)

    def test_more_goes_ahead_of_all(self):
        program = (1, (0, 0), ((("go", 0), ("raise", 0, 1), ("go", 1)), (("raise", 0, 1), ("go", 0))), (0, 1))
        for most in (1, 2, 100, 2000):
            self.assertEqual(look(program, ("comes", ALWAYS, NEVER), most), ("more",))

    def test_long_ways(self):
        # One hand counts through a thousand numbers, then goes round.
        part = (("raise", 0, 1), ("less", 0, 1000, 0), ("go", 2))
        program = (1, (0, 0), (part,), (0,))
        told = look(program, ("comes", ALWAYS, NEVER), 5000)
        self.assertEqual((told[0], len(told[1]), told[2]), ("ring", 2000, [("do", 0, 0)]))
        told = look(program, ("comes", ALWAYS, at(2)), 5000)
        self.assertEqual((told[0], len(told[1])), ("comes", 2001))
        self.assertIsNone(slow_count_fault(program, ("comes", ALWAYS, at(2)), told[1]))
        part = (("raise", 0, 1), ("less", 0, 1000, 0), ("put", 0, 0), ("go", 0))
        self.assertEqual(self.agrees((1, (0, 0), (part,), (0,)), ("comes", ALWAYS, NEVER), 5000), "ring")


class Refused(unittest.TestCase):
    PROGRAM = (1, (0, 0), ((BELL,),), (0,))

    def test_no_program(self):
        for claim in (("comes", ALWAYS, NEVER), None, ("never", NEVER), ("comes",)):
            with self.assertRaises(NoProgram) as caught:
                look((1, (0, 0), ((BELL, ("go", 7)),), (0,)), claim, 10)
            self.assertEqual((caught.exception.role, caught.exception.place), (0, 1))
            with self.assertRaises(NoProgram) as caught:
                look((0, (0, 0), ((),), (0,)), claim, 10)
            self.assertEqual((caught.exception.role, caught.exception.place), (-1, -1))

    def test_no_claim(self):
        for claim in (None, (), ("comes",), ["comes", NEVER, NEVER], ("comes", NEVER, at(0, role=1)), ("comes", NEVER),
                      ("never", NEVER), ("behind", NEVER, NEVER)):
            with self.assertRaises(NoClaim):
                look(self.PROGRAM, claim, 10)


class Own(unittest.TestCase):
    def test_lists_are_the_askers_own(self):
        program = (1, (0, 0), ((BELL, ("go", 1)),), (0,))
        for claim in (("comes", at(0), at(1)), ("comes", at(0), at(9))):
            told, again = look(program, claim, 10), look(program, claim, 10)
            for each in told[1:]:
                each.clear()
            self.assertEqual(look(program, claim, 10), again)


class ManyPrograms(Comings):
    def test_by_chance(self):
        chance = random.Random(45)
        seen = {}
        for turn in range(700):
            program = some_program(chance, chance.choice(((0, 0, 1), (0, 1, 2), (0, 0), (0, 1), (1,))), 3, (1, 4),
                                   chance.choice(((0, 0), (0, 0), (1, 0), (0, 1))), chance.random() < 0.3)
            claim = some_claim(chance, 3, ("comes",))
            word = self.agrees(program, claim, chance.choice((20, 150)))
            seen[word] = seen.get(word, 0) + 1
        for word in ("more", "stuck", "ring", "comes"):
            self.assertGreater(seen.get(word, 0), 20, seen)


if __name__ == "__main__":
    unittest.main()
