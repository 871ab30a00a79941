"""Going through plainly: every world that runs come to, as it is."""

from letterall.claims import look_over_claim
from letterall.goings import go_through, moves_and_worlds
from letterall.programs import look_over


def go_plainly(program, claim, most):
    look_over(program)
    look_over_claim(program, claim)
    gone = go_through(program, claim, most, lambda world: moves_and_worlds(program, world))
    if gone[0] == "broken":
        return ("broken", gone[1].way())
    if gone[0] == "more":
        return ("more",)
    return ("whole", gone[1].pairs)
