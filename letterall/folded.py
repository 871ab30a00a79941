"""Going through folded: of worlds that are alike but for the names of hands only the least one."""

from letterall.claims import look_over_claim
from letterall.deeds import after_move, moves
from letterall.goings import go_through
from letterall.programs import HANDS, look_over
from letterall.renamed import least_by, renamed_move, turns_of
from letterall.renamings import after, same, undone


class Folder:
    """The least worlds of a program's worlds, each looked for once."""

    def __init__(self, program):
        self.program = program
        self.turns = turns_of(program)
        self.found = {}

    def least_of(self, world):
        if world not in self.found:
            self.found[world] = least_by(self.turns, world)
        return self.found[world]

    def deeds_at(self, world):
        """A deed is a move with the renaming that leads on from its world to the least one."""
        deeds = []
        for move in moves(self.program, world):
            told = self.least_of(after_move(self.program, world, move))
            deeds.append(((move, told[1]), told[0]))
        return deeds


def go_folded(program, claim, most):
    look_over(program)
    look_over_claim(program, claim)
    folder = Folder(program)
    gone = go_through(program, claim, most, lambda world: folder.deeds_at(world))
    if gone[0] == "broken":
        return ("broken", unfolded(gone[1].way(), len(program[HANDS])))
    if gone[0] == "more":
        return ("more",)
    return ("whole", gone[1].pairs)


def unfolded(deeds, hands):
    """The moves of the run that goes, but for the names of hands, by these deeds."""
    made = []
    # By the turn the run's own world is renamed to the least world that it stands at.
    turn = same(hands)
    for move, p in deeds:
        made.append(renamed_move(move, undone(turn)))
        turn = after(turn, p)
    return made
