import random
import unittest

from letterall.claims import broken_over
from letterall.errors import NoClaim, NoProgram
from letterall.papers import fault
from letterall.patterns import is_pattern
from letterall.plainly import go_plainly
from letterall.renamings import same
from letterall.stretches import marks_of, stretched
from letterall.widened import widened
from tests.samples import BELL, some_claim, some_fitting_claim, some_program, some_step

NEVER = ("never", ("letters", 1, 1, None))
NUMBER_WORDS = ("put", "copy", "raise", "sum", "choose", "less", "before")


def at(place, low=1, role=0):
    return ("count", role, ("at", place), low, None)


def number(box, low, high):
    return ("count", 0, ("number", box, low, high), 1, None)


# One hand that counts up for ever, and one that counts up to a thousand.
ENDLESS = (1, (0, 0), ((("raise", 0, 1), ("go", 0)),), (0,))
COUNTER = (1, (0, 0), ((("raise", 0, 1), ("less", 0, 1000, 0)),), (0,))


class Widened(unittest.TestCase):
    def agrees(self, program, claim, most):
        """That what is told is as the document asks; its word, and that of going plainly."""
        told = widened(program, claim, most)
        plain = go_plainly(program, claim, most)
        self.assertIs(type(told), tuple)
        if told[0] == "paper":
            self.assertEqual(len(told), 2)
            self.assertIsNone(fault(program, claim, told[1]))
            self.assertLessEqual(len(told[1]), most)
            for pattern, bit, chosen, steps in told[1]:
                self.assertIsNone(chosen)
                self.assertLessEqual({p for to, p in steps}, {same(len(program[3]))})
            self.assertNotEqual(plain[0], "broken")
        elif told[0] == "perhaps":
            self.assertEqual(len(told), 2)
            self.assertTrue(is_pattern(program, told[1]))
            self.assertTrue(any(broken_over(program, claim, told[1], bit) for bit in (False, True)))
        else:
            self.assertEqual(told, ("more",))
        if plain[0] == "whole" and not any(step[0] in NUMBER_WORDS for steps in program[2] for step in steps):
            self.assertEqual(told[0], "paper")
        return told[0], plain[0]


class Paper(Widened):
    def test_runs_without_end(self):
        self.assertEqual(self.agrees(ENDLESS, ("never", number(0, None, -1)), 5), ("paper", "more"))
        self.assertEqual(len(widened(ENDLESS, ("never", number(0, None, -1)), 5)[1]), 2)
        self.assertEqual(self.agrees(COUNTER, ("never", number(0, 1001, None)), 5), ("paper", "more"))
        self.assertEqual(self.agrees(ENDLESS, NEVER, 5), ("paper", "more"))

    def test_letters_with_numbers(self):
        # Hand 0 sends greater and greater numbers for ever; hand 1 takes them.
        writer = (("only", 0, 1), ("raise", 0, 3), ("send", 0, 1, 0, 0), ("go", 1))
        program = (2, (1, 0), (writer, (("take", -1, ((1, 0, 0, 1, 0),)),)), (0, 1))
        claim = ("never", ("count", 1, ("number", 0, None, -1), 1, None))
        self.assertEqual(self.agrees(program, claim, 200), ("paper", "more"))

    def test_patterns_that_may_not_be_joined(self):
        # The number is 0 or 7; a pattern of all numbers between would break the claim.
        program = (1, (0, 0), ((("choose", 0, 2), ("less", 0, 1, 3), ("put", 0, 7), ("go", 0)),), (0,))
        self.assertEqual(self.agrees(program, ("never", number(0, 3, 5)), 20), ("paper", "whole"))

    def test_behind(self):
        for claim in (("behind", number(0, 5, None), number(0, 1, None)), ("behind", at(1), number(0, 1, None)),
                      ("behind", number(0, 1, None), at(1))):
            self.assertEqual(self.agrees(ENDLESS, claim, 50)[0], "paper")

    def test_losses_and_falls(self):
        program = (1, (1, 1), ((("only", 0, 1), ("raise", 0, 1), ("send", 0, 1, 0, 0), ("go", 1)),
                               (("take", -1, ((1, 0, 0, 1, 0),)),)), (0, 1))
        self.assertEqual(self.agrees(program, ("never", ("letters", 1, 2, None)), 500)[0], "paper")
        self.assertEqual(self.agrees(program, ("never", ("count", 1, ("fallen",), 1, None)), 500)[0], "perhaps")

    def test_the_lists_are_the_askers_own(self):
        claim = ("never", number(0, None, -1))
        widened(ENDLESS, claim, 5)[1].clear()
        self.assertEqual(len(widened(ENDLESS, claim, 5)[1]), 2)


class NoPaper(Widened):
    def test_no_paper_where_a_run_breaks_the_claim(self):
        for program, claim in ((COUNTER, ("never", number(0, 1000, None))), (ENDLESS, ("never", number(0, 4, 4))),
                               (ENDLESS, ("never", number(0, 700, None))), (ENDLESS, ("never", at(0))),
                               (ENDLESS, ("behind", at(1), number(0, 2, None))),
                               (ENDLESS, ("behind", number(0, 3, None), ("letters", 1, 1, None)))):
            for most in (1, 2, 5, 100, 2000):
                self.assertIn(self.agrees(program, claim, most)[0], ("perhaps", "more"))

    def test_the_first_world(self):
        self.assertEqual(self.agrees(ENDLESS, ("never", at(0)), 1), ("perhaps", "broken"))

    def test_more(self):
        program = (1, (0, 0), ((BELL, BELL),), (0, 0))
        for most in (1, 2, 8):
            self.assertEqual(widened(program, NEVER, most), ("more",))
        for most in (9, 10):
            self.assertEqual(widened(program, NEVER, most)[0], "paper")


class WithoutNumbers(Widened):
    def some_program_without_numbers(self, chance):
        hands, roles = chance.choice(((0, 0, 1), (0, 1, 2), (0, 0), (1,))), 3
        parts = []
        for role in range(roles):
            length, steps = chance.randint(1, 5), []
            while len(steps) < length:
                step = some_step(chance, length, hands, roles, len(steps) if chance.random() < 0.8 else False)
                if step[0] not in NUMBER_WORDS:
                    steps.append(step)
            parts.append(tuple(steps))
        return (chance.randint(1, 2), chance.choice(((0, 0), (1, 0), (0, 1))), tuple(parts), hands)

    def test_a_paper_where_plainly_whole_by_the_same_most(self):
        chance = random.Random(430)
        seen = {}
        for turn in range(250):
            program = self.some_program_without_numbers(chance)
            claim = chance.choice((some_claim(chance, 3, ("never", "behind")), some_fitting_claim(chance, program)))
            plain = go_plainly(program, claim, 150)
            # Just as many pairs as there are, one less and one more.
            count = len(plain[1]) if plain[0] == "whole" else 100
            for most in (count - 1, count, count + 1):
                if most > 0:
                    both = self.agrees(program, claim, most)
                    seen[both] = seen.get(both, 0) + 1
        self.assertGreater(seen.get(("paper", "whole"), 0), 100, seen)
        self.assertGreater(seen.get(("perhaps", "broken"), 0), 30, seen)


class Refused(unittest.TestCase):
    def test_no_program(self):
        for claim in (NEVER, None, ("comes", NEVER[1], NEVER[1]), ("never",)):
            with self.assertRaises(NoProgram) as caught:
                widened((1, (0, 0), ((BELL, ("go", 7)),), (0,)), claim, 10)
            self.assertEqual((caught.exception.role, caught.exception.place), (0, 1))
            with self.assertRaises(NoProgram) as caught:
                widened((0, (0, 0), ((),), (0,)), claim, 10)
            self.assertEqual((caught.exception.role, caught.exception.place), (-1, -1))

    def test_no_claim(self):
        for claim in (None, (), ("never",), ["never", NEVER[1]], ("never", at(0, role=1)), ("comes", NEVER[1]),
                      ("comes", NEVER[1], NEVER[1]), ("comes", at(0), at(1))):
            with self.assertRaises(NoClaim):
                widened(ENDLESS, claim, 10)


class Stretches(unittest.TestCase):
    def test_marks(self):
        program = (1, (0, 0), ((("less", 0, 7, 0), ("put", 0, 99)), (("less", 1, -3, 0),)), (0, 1))
        claim = ("behind", number(0, 20, None), ("not", ("count", 1, ("not", ("number", 2, None, 5)), 1, None)))
        self.assertEqual(marks_of(program, claim), [-4, -3, -2, 4, 5, 6, 7, 8, 19, 20, 21])
        self.assertEqual(marks_of(ENDLESS, NEVER), [])

    def test_stretched(self):
        for old, new, told in (((0, 0), (0, 0), (0, 0)), ((0, 3), (1, 2), (0, 3)), ((0, 3), (1, 4), (0, 10)),
                               ((0, 3), (-1, 3), (-5, 3)), ((0, 3), (-6, 11), (None, None)), ((0, 3), (-5, 10), (-5, 10)),
                               ((0, None), (5, None), (0, None)), ((0, 3), (None, 9), (None, 10)), ((3, 3), (0, 3), (0, 3)),
                               ((3, 3), (1, None), (0, None)), ((2, 3), (2, 4), (2, 10)), ((2, 3), (1, 3), (0, 3))):
            self.assertEqual(stretched(old, new, [-5, 0, 10]), told)
        self.assertEqual(stretched((0, 0), (1, 1), []), (0, None))


class ManyPrograms(Widened):
    def test_by_chance(self):
        chance = random.Random(43)
        seen = {}
        for turn in range(400):
            program = some_program(chance, chance.choice(((0, 0, 1), (0, 1), (0, 0), (1,))), 3, (2, 5),
                                   chance.choice(((0, 0), (1, 0), (0, 1))), chance.random() < 0.4)
            claim = chance.choice((some_claim(chance, 3, ("never", "behind")), some_fitting_claim(chance, program)))
            both = self.agrees(program, claim, chance.choice((5, 40, 120)))
            seen[both] = seen.get(both, 0) + 1
        for both in (("paper", "whole"), ("paper", "more"), ("perhaps", "broken"), ("more", "more")):
            self.assertGreater(seen.get(both, 0), 5, seen)


if __name__ == "__main__":
    unittest.main()
