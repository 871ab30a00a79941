import random
import unittest

from letterall.claims import bit_of, bit_over, broken_over
from letterall.deeds import do, moves
from letterall.errors import NoClaim, NoProgram
from letterall.folded import go_folded
from letterall.papers import fault
from letterall.patterns import joined, lies_in, pattern_of, within
from letterall.plainly import go_plainly
from letterall.quiet import quiet
from letterall.renamed import least, renamed
from letterall.renamings import keeping, same
from letterall.spreads import spread
from letterall.worlds import first
from tests.samples import BELL, changed, mine, some_fitting_claim, some_pattern, some_program, with_truths, world_of

FREE = (None, None)
NOUGHTS = ((0, 0),) * 3


def at(place, role=0, low=1):
    return ("count", role, ("at", place), low, None)


def plain_paper(program, claim, pairs, row_of=tuple):
    """The paper of whole pairs: a row for each, of its own pattern and its bit."""
    numbers = {pair: number for number, pair in enumerate(pairs)}
    rows = []
    for world, bit in pairs:
        steps = []
        for move in moves(program, world):
            after, p = do(program, world, move), same(len(program[3]))
            pair = (after, bit_of(program, claim, after, bit))
            if pair not in numbers:
                after, p = least(program, after)
                pair = (after, pair[1])
            steps.append((numbers[pair], p))
        rows.append((pattern_of(world), bit, None, row_of(steps)))
    return rows


def slow_fault(program, claim, rows):
    """The first fault of a paper whose rows have a good form."""
    start = first(program)
    if not rows or not lies_in(start, rows[0][0]) or (rows[0][1] and not bit_of(program, claim, start, False)):
        return ("first",)
    for number, (pattern, bit, chosen, steps) in enumerate(rows):
        if broken_over(program, claim, pattern, bit):
            return ("broken", number)
        if chosen is not None and not quiet(program, claim, pattern, chosen):
            return ("chosen", number)
        told = [outcome for move, outcome in spread(program, pattern) if chosen in (None, move[1]) and (
            chosen is None or move[0] == "do")]
        for k, outcome in enumerate(told):
            after = bit_over(program, claim, outcome, bit)
            if not any(within(renamed(outcome, p), rows[to][0]) and (after or not rows[to][1]) for to, p in steps):
                return ("step", number, k)
    return None


# Two hands that each choose one of two numbers and ring their bell.
RINGERS = (1, (0, 0), ((("choose", 0, 2), BELL), ()), (0, 0))
NEVER = ("never", ("letters", 1, 1, None))
RINGING = plain_paper(RINGERS, NEVER, go_plainly(RINGERS, NEVER, 100)[1])
FOLDED = plain_paper(RINGERS, NEVER, go_folded(RINGERS, NEVER, 100)[1])

# One hand that counts up for ever.
COUNTER = (1, (0, 0), ((("raise", 0, 1), ("go", 0)),), (0,))
BELOW = ("never", ("count", 0, ("number", 0, None, -1), 1, None))


def counting(place, pair):
    return world_of([mine(place, (pair, (0, 0), (0, 0)))])


COUNTING = [(counting(0, (0, None)), False, None, [(1, (0,))]), (counting(1, (1, None)), False, None, [(0, (0,))])]


class Papers(unittest.TestCase):
    def tells(self, program, claim, paper, told):
        with self.subTest(paper=paper):
            found = fault(program, claim, paper)
            self.assertEqual(found, told)
            self.assertEqual([type(each) for each in found or ()], [type(each) for each in told or ()])


class WithoutFault(Papers):
    def test_whole_pairs(self):
        self.assertEqual(len(RINGING), 25)
        self.tells(RINGERS, NEVER, RINGING, None)
        self.assertEqual(len(FOLDED), 15)
        self.tells(RINGERS, NEVER, FOLDED, None)

    def test_lists_and_tuples(self):
        for rows in (tuple(FOLDED), [(pattern, bit, chosen, list(steps)) for pattern, bit, chosen, steps in FOLDED],
                     tuple((pattern, bit, chosen, list(steps)) for pattern, bit, chosen, steps in FOLDED)):
            self.tells(RINGERS, NEVER, rows, None)

    def test_runs_without_end(self):
        self.tells(COUNTER, BELOW, COUNTING, None)

    def test_rows_more_than_needed(self):
        self.tells(COUNTER, BELOW, COUNTING + [(counting(2, (5, 7)), False, None, [])], None)

    def test_nothing_that_is_handed_in_is_changed(self):
        paper = [(pattern, bit, chosen, list(steps)) for pattern, bit, chosen, steps in FOLDED]
        again = [(pattern, bit, chosen, list(steps)) for pattern, bit, chosen, steps in FOLDED]
        fault(RINGERS, NEVER, paper)
        self.assertEqual(paper, again)


class Form(Papers):
    def wrong(self, row, number=1):
        paper = list(COUNTING)
        paper[number] = row
        self.tells(COUNTER, BELOW, paper, ("form", number))
        self.tells(COUNTER, BELOW, tuple(paper), ("form", number))

    def with_thing(self, place, thing):
        row = COUNTING[1]
        return row[:place] + (thing,) + row[place + 1:]

    def test_rows(self):
        row = COUNTING[1]
        for thing in (None, 0, True, "row", (), [], {}, list(row), row[:3], row + (None,), row[1:], (row,)):
            self.wrong(thing)
            self.wrong(thing, 0)

    def test_patterns(self):
        for thing in (None, 0, (), list(counting(0, FREE)), first(COUNTER), counting(3, FREE), counting(-2, FREE),
                      counting(0, (1, 0)), counting(0, (True, 1)), counting(0, [0, 1]), counting(0, 0),
                      world_of([mine(0, NOUGHTS)] * 2), changed(counting(0, FREE), (2, 0), 1)):
            self.wrong(self.with_thing(0, thing))

    def test_bits(self):
        for thing in (0, 1, None, "no", (), -1):
            self.wrong(self.with_thing(1, thing))

    def test_chosen_hands(self):
        for thing in (False, True, -1, 1, 2, "0", (), (0,), [0], 0.0):
            self.wrong(self.with_thing(2, thing))

    def test_steps(self):
        for thing in (None, 0, "", "ab", {}, True, {0: (0,)}):
            self.wrong(self.with_thing(3, thing))
        for step in (None, 0, (), (0,), [0, (0,)], (0, (0,), 0), (0, [0]), (0, 0), (0, None), (0, "0"), (-1, (0,)),
                     (2, (0,)), (False, (0,)), (True, (0,)), ("0", (0,)), (None, (0,)), (0.0, (0,)), (0, (False,)),
                     (0, ()), (0, (1,)), (0, (0, 1))):
            for steps in ([step], (step,), [(0, (0,)), step], (step, (0, (0,)))):
                self.wrong(self.with_thing(3, steps))

    def test_renamings_that_keep_roles(self):
        program = (1, (0, 0), ((BELL,), ()), (0, 0, 1))
        row = (pattern_of(first(program)), False, None, [(0, (1, 0, 2))])
        self.tells(program, NEVER, [row], ("step", 0, 0))
        for p in ((0, 2, 1), (2, 1, 0), (1, 2, 0), (2, 0, 1), (0, 1), (0, 1, 2, 3), (0, 0, 2), *with_truths((0, 1, 2))):
            self.tells(program, NEVER, [changed(row, (3,), ((0, p),))], ("form", 0))

    def test_the_first_row_of_bad_form_ahead_of_all_else(self):
        elsewhere = (counting(1, (-5, 5)), True, 0, [])
        for bad in (None, (), COUNTING[0][:3]):
            self.tells(COUNTER, BELOW, [elsewhere, elsewhere, bad, bad], ("form", 2))
            self.tells(COUNTER, BELOW, [bad, elsewhere, bad], ("form", 0))
            self.tells(COUNTER, BELOW, [elsewhere, COUNTING[1], elsewhere, bad], ("form", 3))


class First(Papers):
    def test_no_rows(self):
        for paper in ([], (), None, 0, True, "", "abc", {}, {0: COUNTING[0]}, 1.5):
            self.tells(COUNTER, BELOW, paper, ("first",))

    def test_the_first_world_lies_in_the_pattern_of_row_0(self):
        for pattern in (counting(0, (1, None)), counting(0, (None, -1)), counting(1, (0, None)), counting(-1, FREE)):
            paper = [(pattern,) + COUNTING[0][1:]] + COUNTING[1:]
            self.tells(COUNTER, BELOW, paper, ("first",))
        turned = [(COUNTING[1][0], False, None, [(1, (0,))]), (COUNTING[0][0], False, None, [(0, (0,))])]
        self.tells(COUNTER, BELOW, turned, ("first",))

    def test_it_goes_ahead_of_what_comes_row_by_row(self):
        self.tells(COUNTER, BELOW, [(counting(1, (-5, 5)), True, None, [])], ("first",))

    def test_its_bit(self):
        # The hand rings and rings: with Q true of the first world its bit is True there, else False.
        program = (1, (0, 0), ((BELL, ("go", 0)),), (0,))
        for q, told in ((("count", 0, ("at", 0), 1, 1), True), (("count", 0, ("at", 1), 1, 1), False)):
            claim = ("behind", at(9), q)
            pairs = go_plainly(program, claim, 10)[1]
            self.assertIs(pairs[0][1], told)
            paper = plain_paper(program, claim, pairs)
            self.tells(program, claim, paper, None)
            # A row with the bit False stands for worlds with either bit.
            self.tells(program, claim, [(row[0], False) + row[2:] for row in paper], None)
            self.tells(program, claim, [(row[0], True) + row[2:] for row in paper], None if told else ("first",))


class RowByRow(Papers):
    def test_broken(self):
        for test, told in ((("number", 0, None, -1), None), (("number", 0, None, 0), ("broken", 0)),
                           (("number", 0, 7, 7), ("broken", 0)), (("number", 1, 0, 0), ("broken", 0)),
                           (("number", 1, 1, None), None), (("at", 1), ("broken", 1)), (("at", 2), None)):
            self.tells(COUNTER, ("never", ("count", 0, test, 1, None)), COUNTING, told)

    def test_broken_by_the_bit(self):
        program = (1, (0, 0), ((BELL, BELL),), (0,))
        claim = ("behind", at(2), at(1))
        rows = [(world_of([mine(place, NOUGHTS, bell=place > 0)]), place > 0, None, [(place + 1, (0,))][:2 - place])
                for place in range(3)]
        self.tells(program, claim, rows, None)
        self.tells(program, claim, [rows[0], rows[1], (rows[2][0], False, None, ())], ("broken", 2))

    def test_chosen(self):
        # Hand 0 rings and goes back; hand 1 rings and ends.
        program = (1, (0, 0), ((BELL, ("go", 0)), (BELL, BELL)), (0, 1))

        def paper(first_hand, second_hand):
            def row(a, b, rang, chosen, steps):
                parts = [mine(a, NOUGHTS, bell=rang), mine(b, NOUGHTS, bell=b > 0)]
                return (world_of(parts), False, chosen, [(to, (0, 1)) for to in steps])
            return [row(0, 0, False, first_hand, (1, 4)), row(1, 0, True, second_hand, (2, 6)),
                    row(0, 0, True, None, (1, 3)), row(0, 1, True, None, (5, 6)), row(0, 1, False, None, (6, 7)),
                    row(0, 2, True, None, (8,)), row(1, 1, True, None, (3, 8)), row(0, 2, False, None, (8,)),
                    row(1, 2, True, None, (5,))]
        self.tells(program, NEVER, paper(None, None), None)
        self.tells(program, NEVER, paper(1, None), None)
        self.tells(program, NEVER, paper(0, None), None)
        # Hand 0 at place 1 goes back, so it is not quiet there.
        self.tells(program, NEVER, paper(None, 0), ("chosen", 1))
        self.tells(program, NEVER, paper(None, 1), None)
        # A claim that asks for the place of hand 1 does not let it be chosen.
        self.tells(program, ("never", at(9, 1)), paper(1, None), None)
        self.tells(program, ("never", ("both", at(1, 1), at(9))), paper(1, None), ("chosen", 0))
        self.tells(program, ("never", ("both", at(1, 1), at(9))), paper(0, None), None)

    def test_outcomes_of_the_chosen_hand_alone(self):
        program = (1, (1, 0), ((("choose", 0, 3),), (("choose", 0, 2),)), (0, 1))

        def row(one, other, chosen, steps):
            parts = [mine(int(each is not None), ((each or 0, each or 0), (0, 0), (0, 0))) for each in (one, other)]
            return (world_of(parts, {}, (1, 0)), False, chosen, [(to, (0, 1)) for to in steps])
        ends = [row(number, 1, None, ()) for number in range(3)]
        zeros = [row(number, 0, None, ()) for number in range(3)]
        middle = [row(None, 0, 0, (3, 4, 5)), row(None, 1, 0, (6, 7, 8))]
        good = [row(None, None, 1, (1, 2))] + middle + zeros + ends
        self.tells(program, NEVER, good, None)
        self.tells(program, NEVER, [row(None, None, None, (1, 2))] + good[1:], ("step", 0, 0))
        self.tells(program, NEVER, [row(None, None, 0, (1, 2))] + good[1:], ("step", 0, 0))
        self.tells(program, NEVER, [row(None, None, 1, (1,))] + good[1:], ("step", 0, 1))
        self.tells(program, NEVER, [row(None, None, 1, (2,))] + good[1:], ("step", 0, 0))
        self.tells(program, NEVER, good[:1] + [row(None, 0, 0, (3, 5))] + good[2:], ("step", 1, 1))

    def test_a_loss_is_no_chosen_hands_move(self):
        program = (1, (1, 0), ((("me", 0), ("send", 0, 1, 0, 0), BELL),), (0,))
        names = (0, -1, -1)
        there = {(0, 0): [(1, (0, 0), 0)]}

        def row(place, letters, losses, chosen, steps):
            part = mine(place, NOUGHTS, names if place else (-1, -1, -1), bell=place == 3)
            return (world_of([part], letters, (losses, 0)), False, chosen, [(to, (0,)) for to in steps])
        for chosen, steps, told in ((None, (3, 4), None), (0, (3,), None), (None, (3,), ("step", 2, 1)),
                                    (None, (4,), ("step", 2, 0)), (0, (4,), ("step", 2, 0))):
            paper = [row(0, {}, 1, None, (1,)), row(1, {}, 1, None, (2,)), row(2, there, 1, chosen, steps),
                     row(3, there, 1, None, (5,)), row(2, {}, 0, None, (5,)), row(3, {}, 0, None, ())]
            self.tells(program, ("never", at(9)), paper, told)

    def test_which_outcome(self):
        for number, (pattern, bit, chosen, steps) in enumerate(RINGING):
            for k in range(len(steps)):
                paper = list(RINGING)
                paper[number] = (pattern, bit, chosen, steps[:k] + steps[k + 1:])
                self.tells(RINGERS, NEVER, paper, ("step", number, k))
            paper = list(RINGING)
            paper[number] = (pattern, bit, chosen, steps[::-1])
            self.tells(RINGERS, NEVER, paper, None)

    def test_outcomes_within_wider_patterns(self):
        for pair, told in (((1, None), None), ((0, None), None), (FREE, ("broken", 1)), ((2, None), ("step", 0, 0)),
                           ((1, 99), ("step", 0, 0))):
            paper = [COUNTING[0], (counting(1, pair), False, None, [(0, (0,))])]
            self.tells(COUNTER, BELOW, paper, told)
        self.tells(COUNTER, BELOW, [(counting(0, (0, 5)), False, None, [(1, (0,))]), COUNTING[1]], ("step", 1, 0))

    def test_both_outcomes_of_one_move(self):
        program = (1, (0, 0), ((("less", 0, 5, 2), ("go", 1), ("raise", 0, 1), ("go", 0)),), (0,))
        claim = ("never", ("count", 0, ("number", 0, 6, None), 1, None))
        low, high = counting(2, (0, 4)), counting(1, (5, 5))
        raised = counting(3, (1, 5))
        rows = [(counting(0, (0, 5)), False, None, [(1, (0,)), (2, (0,))]), (low, False, None, [(3, (0,))]),
                (high, False, None, [(2, (0,))]), (raised, False, None, [(0, (0,))])]
        self.tells(program, claim, rows, None)
        for steps, k in ((((1, (0,)),), 1), (((2, (0,)),), 0)):
            self.tells(program, claim, [(rows[0][0], False, None, steps)] + rows[1:], ("step", 0, k))

    def test_listed_by_renaming(self):
        for number, (pattern, bit, chosen, steps) in enumerate(FOLDED):
            for k, (to, p) in enumerate(steps):
                other = (1, 0) if p == (0, 1) else (0, 1)
                paper = list(FOLDED)
                paper[number] = (pattern, bit, chosen, steps[:k] + ((to, other),) + steps[k + 1:])
                self.tells(RINGERS, NEVER, paper, slow_fault(RINGERS, NEVER, paper))
                if renamed(FOLDED[to][0], (1, 0)) != FOLDED[to][0] and (to, p) not in steps[:k] + steps[k + 1:]:
                    self.tells(RINGERS, NEVER, paper, ("step", number, k))

    def test_renamed_the_right_way_round(self):
        # Three hands in a ring: by a renaming and by what undoes it one comes to unlike patterns.
        program = (1, (0, 0), ((("choose", 0, 3),),), (0, 0, 0))
        start = pattern_of(first(program))

        def over(numbers):
            return world_of([mine(0 if each is None else 1, ((each or 0,) * 2, (0, 0), (0, 0))) for each in numbers])
        turned = over((2, None, None))
        rows = [(start, False, None, [(1, (1, 2, 0))]), (over((None, 0, None)), False, None, [])]
        self.tells(program, NEVER, rows, ("step", 0, 1))
        rows[0] = (start, False, None, [(1, (2, 0, 1))])
        self.tells(program, NEVER, rows, ("step", 0, 0))
        rows = [(start, False, None, [(1, (1, 2, 0)), (2, (1, 2, 0)), (3, (1, 2, 0))]),
                (over((None, 0, None)), False, None, []), (over((None, 1, None)), False, None, []),
                (over((None, 2, None)), False, None, []), (turned, False, None, [])]
        self.tells(program, NEVER, rows, ("step", 0, 3))

    def test_listed_by_bit(self):
        # Place 1 sets the bit; a row with the bit True does not stand for a pair with the bit False.
        program = (1, (0, 0), ((("less", 0, 1, 2), BELL),), (0,))
        claim = ("behind", at(9), at(1))
        start, end = counting(0, (0, 0)), counting(2, (0, 0))
        for bit, told in ((False, None), (True, ("step", 0, 0))):
            self.tells(program, claim, [(start, False, None, [(1, (0,))]), (end, bit, None, [])], told)
        both = [(1, (0,)), (2, (0,))]
        self.tells(program, claim, [(start, False, None, both), (end, True, None, []), (end, False, None, [])], None)
        self.tells(program, claim, [(start, False, None, both), (end, False, None, []), (end, True, None, [])], None)
        sets = (1, (0, 0), ((BELL, BELL),), (0,))
        for bit in (True, False):
            rows = [(pattern_of(world), number > 0 and bit, None, [(number + 1, (0,))][:2 - number])
                    for number, (world, ahead) in enumerate(go_plainly(sets, claim, 9)[1])]
            self.tells(sets, claim, rows, None)

    def test_the_bit_comes_over_the_outcome(self):
        # Q is told None over the outcome, so its bit is False there, unless the row's bit was True.
        claim = ("behind", at(9), ("count", 0, ("number", 0, 3, None), 1, None))
        for ahead, bit, told in ((False, False, None), (False, True, ("step", 0, 0))):
            rows = [(counting(0, (0, 9)), ahead, None, [(1, (0,))]), (counting(1, (1, 10)), bit, None, [(2, (0,))]),
                    (counting(0, (1, 10)), ahead, None, [])]
            self.tells(COUNTER, claim, rows, told or ("step", 2, 0))
        certain = ("behind", at(9), ("count", 0, ("number", 0, 1, None), 1, None))
        rows = [(counting(0, (0, None)), False, None, [(1, (0,))]), (counting(1, (1, None)), True, None, [(2, (0,))]),
                (counting(0, (0, None)), True, None, [(1, (0,))])]
        self.tells(COUNTER, certain, rows, None)

    def test_row_by_row(self):
        elsewhere = counting(1, FREE)
        self.tells(COUNTER, BELOW, [COUNTING[0][:3] + ([],), (elsewhere, False, None, [])], ("step", 0, 0))
        self.tells(COUNTER, BELOW, [COUNTING[0], (elsewhere, False, 0, [])], ("broken", 1))
        self.tells(COUNTER, BELOW, [COUNTING[0], (COUNTING[1][0], False, 0, [])], ("chosen", 1))
        self.tells(COUNTER, BELOW, [COUNTING[0], (COUNTING[1][0], False, None, [])], ("step", 1, 0))
        self.tells(COUNTER, BELOW, [COUNTING[0][:2] + (0, []), (elsewhere, False, 0, [])], ("chosen", 0))


class Refused(unittest.TestCase):
    WRONG = (1, (0, 0), ((BELL, ("go", 7)),), (0,))

    def test_no_program(self):
        for claim in (BELOW, None, ("comes", NEVER[1], NEVER[1]), ("never",)):
            for paper in (COUNTING, None):
                with self.assertRaises(NoProgram) as caught:
                    fault(self.WRONG, claim, paper)
                self.assertEqual((caught.exception.role, caught.exception.place), (0, 1))

    def test_no_claim(self):
        for claim in (None, (), ("never",), ["never", NEVER[1]], ("never", at(0, 1)), ("comes", NEVER[1]),
                      ("comes", NEVER[1], NEVER[1]), ("comes", at(0), at(1))):
            for paper in (COUNTING, None, [], [None]):
                with self.subTest(claim=claim, paper=paper):
                    with self.assertRaises(NoClaim):
                        fault(COUNTER, claim, paper)


class ManyPapers(unittest.TestCase):
    def some_change(self, chance, program, paper):
        """The paper with one thing in one row changed; its form stays good."""
        number = chance.randrange(len(paper))
        pattern, bit, chosen, steps = paper[number]
        steps = list(steps)
        what = chance.randrange(7)
        if what == 0:
            bit = not bit
        elif what == 1:
            chosen = chance.choice((None, *range(len(program[3]))))
        elif what == 2 and steps:
            steps.pop(chance.randrange(len(steps)))
        elif what == 3:
            steps.append((chance.randrange(len(paper)), chance.choice(keeping(program))))
        elif what == 4 and steps:
            place = chance.randrange(len(steps))
            steps[place] = (steps[place][0], chance.choice(keeping(program)))
        elif what == 5:
            wider = joined(pattern, chance.choice(paper)[0]) or pattern
            pattern = chance.choice((wider, some_pattern(chance, program)))
        else:
            chance.shuffle(steps)
        return paper[:number] + [(pattern, bit, chosen, steps)] + paper[number + 1:]

    def test_by_chance(self):
        chance = random.Random(36)
        seen = {}
        for turn in range(150):
            program = some_program(chance, chance.choice(((0, 0, 1), (0, 0), (0, 1, 1))), 2, (1, 4),
                                   chance.choice(((0, 0), (1, 0), (0, 1))), forward=True)
            claim = some_fitting_claim(chance, program)
            for go in (go_plainly, go_folded):
                told = go(program, claim, 60)
                if told[0] != "whole":
                    continue
                paper = plain_paper(program, claim, told[1], chance.choice((list, tuple)))
                self.assertIsNone(fault(program, claim, paper))
                for each in range(15):
                    other = paper
                    for change in range(chance.randint(1, 3)):
                        other = self.some_change(chance, program, other)
                    found = fault(program, claim, other)
                    self.assertEqual(found, slow_fault(program, claim, other))
                    word = found[0] if found else None
                    seen[word] = seen.get(word, 0) + 1
        self.assertEqual(set(seen), {None, "first", "broken", "chosen", "step"})
        self.assertTrue(all(amount >= 20 for amount in seen.values()), seen)

    def test_no_paper_without_fault_where_a_run_breaks_the_claim(self):
        chance = random.Random(37)
        tried = 0
        for turn in range(150):
            program = some_program(chance, chance.choice(((0, 0, 1), (0, 0))), 2, (1, 4), (0, 0), forward=True)
            claim = some_fitting_claim(chance, program)
            if go_plainly(program, claim, 200)[0] != "broken":
                continue
            # All pairs that runs come to, of a claim with the same bits that nothing breaks.
            tame = ("never", at(60)) if claim[0] == "never" else ("behind", at(60), claim[2])
            told = go_plainly(program, tame, 200)
            if told[0] != "whole":
                continue
            paper = plain_paper(program, claim, told[1])
            for each in range(20):
                other = paper
                for change in range(chance.randint(0, 3)):
                    other = self.some_change(chance, program, other)
                self.assertIsNotNone(fault(program, claim, other))
                tried += 1
        self.assertGreater(tried, 400)


if __name__ == "__main__":
    unittest.main()
