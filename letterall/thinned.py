"""Going through thinned: where a hand is quiet its moves alone are made."""

from letterall.claims import look_over_both
from letterall.deeds import after_move, mover, moves
from letterall.goings import go_through
from letterall.makers import paper_by
from letterall.papers import PAPER_WORDS
from letterall.quiet import quiet
from letterall.worlds import all_hands


class Thinner:
    """What is done at the worlds of a program, for a claim, each world looked at once."""

    def __init__(self, program, claim):
        self.program = program
        self.claim = claim
        self.found = {}

    def done_at(self, world):
        """The chosen hand, or None, and the pairs (move, world) of the moves that are made."""
        if world not in self.found:
            chosen = least_quiet(self.program, self.claim, world)
            made = [move for move in moves(self.program, world) if chosen is None or mover(move) == chosen]
            self.found[world] = (chosen, [(move, after_move(self.program, world, move)) for move in made])
        return self.found[world]


def least_quiet(program, claim, world):
    """The least hand that is quiet at the world's own pattern, None where none is."""
    # Numbers decide nothing of who is quiet, so the world itself is asked.
    for hand in all_hands(world):
        if quiet(program, claim, world, hand):
            return hand
    return None


def go_thinned(program, claim, most):
    look_over_both(program, claim, PAPER_WORDS)
    thinner = Thinner(program, claim)
    gone = go_through(program, claim, most, lambda world: thinner.done_at(world)[1])
    if gone[0] == "broken":
        return ("broken", gone[1].way())
    if gone[0] == "more":
        return ("more",)
    return ("paper", paper_by(program, claim, gone[1].pairs, lambda world: thinner.done_at(world)))
