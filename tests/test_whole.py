"""What is promised over the whole program: its interface, and that its answers hold together."""

import copy
import importlib
import inspect
import random
import unittest

from letterall.comings import look
from letterall.cuts import acts, cut, program_of
from letterall.folded import go_folded
from letterall.follows import left
from letterall.makers import paper_of
from letterall.papers import fault
from letterall.plainly import go_plainly
from letterall.ranks import count_fault
from letterall.renamed import renamed, renamed_move
from letterall.renamings import keeping
from letterall.runs import run, walk
from letterall.texts import read, show
from letterall.thinned import go_thinned
from letterall.widened import widened
from tests.samples import BELL, breaks_at, some_claim, some_fitting_claim, some_program

# Each name of the interface with the number of its arguments.
INTERFACE = {
    "bits": {"has": 2, "members": 1, "set_of": 1, "many": 1},
    "steps": {"step_of": 3},
    "programs": {"look_over": 1, "hands_of": 2, "counts_of": 1, "length_of": 2, "step_at": 3},
    "worlds": {"first": 1, "part": 2, "row": 3, "is_world": 2},
    "deeds": {"moves": 2, "do": 3, "mover": 1},
    "runs": {"run": 3, "walk": 2},
    "renamings": {"same": 1, "after": 2, "undone": 1, "is_renaming": 2, "keeping": 1},
    "renamed": {"renamed": 2, "renamed_move": 2, "least": 2},
    "checks": {"holds": 3, "perhaps": 3},
    "claims": {"look_over_claim": 2, "bit_of": 4, "broken": 4, "bit_over": 4, "broken_over": 4, "blind": 4},
    "patterns": {"is_pattern": 2, "lies_in": 2, "within": 2, "pattern_of": 1, "joined": 2},
    "spreads": {"spread": 2},
    "plainly": {"go_plainly": 3},
    "folded": {"go_folded": 3},
    "thinned": {"go_thinned": 3},
    "makers": {"paper_of": 3},
    "widened": {"widened": 3},
    "quiet": {"quiet": 4, "square": 4},
    "papers": {"fault": 3},
    "knots": {"knots": 1},
    "comings": {"look": 3},
    "ranks": {"count_fault": 3},
    "talks": {"look_over_talk": 1, "hands_in": 1},
    "cuts": {"acts": 2, "cut": 2, "program_of": 2},
    "follows": {"follow": 2, "left": 2},
    "texts": {"show": 1, "read": 1, "read_program": 1, "read_claim": 2, "read_talk": 1},
}


class Interface(unittest.TestCase):
    def test_functions(self):
        for module, names in INTERFACE.items():
            for name, amount in names.items():
                with self.subTest(module=module, name=name):
                    found = getattr(importlib.import_module("letterall." + module), name)
                    self.assertEqual(len(inspect.signature(found).parameters), amount)
                    self.assertEqual(found.__module__, "letterall." + module)

    def test_the_desk(self):
        desk = importlib.import_module("letterall.desk").Desk
        self.assertEqual(len(inspect.signature(desk).parameters), 0)
        self.assertEqual(len(inspect.signature(desk.say).parameters), 2)


def programs_and_claims(seed, amount, words=("never", "behind")):
    chance = random.Random(seed)
    for turn in range(amount):
        program = some_program(chance, chance.choice(((0, 0, 1), (0, 1, 2), (0, 0))), 3, (2, 5),
                               chance.choice(((0, 0), (0, 0), (1, 0), (0, 1))), chance.random() < 0.6)
        if "comes" in words:
            yield chance, program, some_claim(chance, 3, words)
        else:
            yield chance, program, some_fitting_claim(chance, program, words)


class Promise(unittest.TestCase):
    def test_no_run_breaks_a_claim_with_a_paper(self):
        papers = 0
        for chance, program, claim in programs_and_claims(3, 200):
            told = [go_thinned(program, claim, 150), widened(program, claim, 60)]
            plain = go_plainly(program, claim, 150)
            if plain[0] == "whole":
                told.append(("paper", paper_of(program, claim, plain[1])))
            for found in told:
                if found[0] == "paper":
                    self.assertIsNone(fault(program, claim, found[1]))
                    papers += 1
            if any(found[0] == "paper" for found in told):
                self.assertNotEqual(plain[0], "broken")
                for each in range(5):
                    worlds = run(program, lambda may: chance.randrange(1000), 60)[1]
                    self.assertIsNone(breaks_at(program, claim, worlds))
        self.assertGreater(papers, 150)

    def test_plainly_folded_and_thinned_tell_broken_together(self):
        seen = {"broken": 0, "not broken": 0}
        for chance, program, claim in programs_and_claims(4, 200):
            told = [go(program, claim, 200) for go in (go_plainly, go_folded, go_thinned)]
            if "more" in [each[0] for each in told]:
                continue
            words = {each[0] == "broken" for each in told}
            self.assertEqual(len(words), 1)
            seen["broken" if True in words else "not broken"] += 1
            if True in words:
                self.assertEqual(len(told[0][1]), len(told[1][1]))
                self.assertLessEqual(len(told[0][1]), len(told[2][1]))
                for each in told:
                    self.assertEqual(breaks_at(program, claim, walk(program, each[1])), len(each[1]))
        self.assertTrue(min(seen.values()) > 30, seen)

    def test_just_one_of_counts_and_a_way_that_is_stuck_or_a_ring(self):
        seen = {}
        for chance, program, claim in programs_and_claims(5, 300, ("comes",)):
            told = look(program, claim, 100)
            seen[told[0]] = seen.get(told[0], 0) + 1
            if told[0] == "comes":
                self.assertIsNone(count_fault(program, claim, told[1]))
            if told[0] in ("stuck", "ring"):
                pairs = go_plainly(program, claim, 100)[1]
                counts = [(world, bit, 1, chance.randrange(len(program[3]))) for world, bit in pairs]
                self.assertIsNotNone(count_fault(program, claim, counts))
        self.assertTrue(min(seen.get(word, 0) for word in ("comes", "stuck", "ring")) > 5, seen)

    def test_hands_renamed_all_answers_stay(self):
        tried = 0
        for chance, program, claim in programs_and_claims(6, 120):
            told = go_plainly(program, claim, 100)
            for p in keeping(program):
                if told[0] == "broken":
                    made = [renamed_move(move, p) for move in told[1]]
                    worlds = walk(program, made)
                    self.assertEqual(worlds, [renamed(world, p) for world in walk(program, told[1])])
                    self.assertEqual(breaks_at(program, claim, worlds), len(made))
                    tried += 1
                elif told[0] == "whole":
                    pairs = [(renamed(world, p), bit) for world, bit in told[1]]
                    self.assertEqual(set(pairs), set(told[1]))
                    self.assertIsNone(fault(program, claim, paper_of(program, claim, told[1])))
                    tried += 1
        self.assertGreater(tried, 100)


class Values(unittest.TestCase):
    PROGRAM = (2, (1, 0), ((("choose", 0, 2), ("pick", 0, 0), ("send", 0, 1, 0, 0), BELL),), (0, 0))
    NEVER = ("never", ("letters", 1, 3, None))
    COMES = ("comes", ("count", 0, ("at", 0), 1, None), ("count", 0, BELL, 1, None))
    TALK = (("fork", 0, (1,), ((1, (("say", 1, 2, 5),)), (2, (("say", 1, 2, 6),)))), ("again", 1, (2,), 3, (), 4))

    def test_nothing_handed_in_is_changed_and_all_is_told_again(self):
        pairs = go_plainly(self.PROGRAM, self.NEVER, 2000)[1]
        paper = [row[:3] + (list(row[3]),) for row in go_thinned(self.PROGRAM, self.NEVER, 2000)[1]]
        counts = look(self.PROGRAM, self.COMES, 2000)[1]
        moves_made = [("do", 0, 1), ("do", 1, 0)]
        for ask, things in ((paper_of, [self.PROGRAM, self.NEVER, pairs]), (fault, [self.PROGRAM, self.NEVER, paper]),
                            (count_fault, [self.PROGRAM, self.COMES, counts]), (walk, [self.PROGRAM, moves_made]),
                            (left, [self.TALK, [(0, 1, 1), (1, 2, 5)]]), (go_thinned, [self.PROGRAM, self.NEVER, 2000]),
                            (widened, [self.PROGRAM, self.NEVER, 2000]), (look, [self.PROGRAM, self.COMES, 2000]),
                            (acts, [self.TALK, 2]), (cut, [self.TALK, 2]), (program_of, [self.TALK, 3])):
            with self.subTest(ask=ask.__name__):
                ahead = copy.deepcopy(things)
                told = ask(*things)
                self.assertEqual(things, ahead)
                self.assertEqual(repr(ask(*things)), repr(told))

    def test_all_that_is_told_can_be_written_and_read(self):
        for told in (go_plainly(self.PROGRAM, self.NEVER, 2000), go_thinned(self.PROGRAM, self.NEVER, 2000),
                     widened(self.PROGRAM, self.NEVER, 2000), look(self.PROGRAM, self.COMES, 2000),
                     acts(self.TALK, 2), program_of(self.TALK, 3)):
            self.assertEqual(show(read(show(told))), show(told))


if __name__ == "__main__":
    unittest.main()
