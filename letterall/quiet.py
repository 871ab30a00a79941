"""Quiet hands, whose moves touch nobody, and squares of two moves."""

from letterall.choices import choices_of, step_now
from letterall.claims import blind
from letterall.deeds import after_move, may_be_made, mover
from letterall.parts import PLACE
from letterall.programs import HANDS
from letterall.worlds import LEFT_STILL, part


def quiet(program, claim, pattern, hand):
    step = step_now(program, pattern, hand)
    if step is None or claim[0] == "comes" or pattern[LEFT_STILL][1] > 0:
        return False
    place = part(pattern, hand)[PLACE]
    if not step.is_quiet_word() or not step.forward(place):
        return False
    # Of the quiet words only a pick may be without a choice: where its role has no other hand.
    if len(choices_of(program, pattern, hand)) == 0:
        return False
    return blind(claim, program[HANDS][hand], (place,) + step.nexts(place), step.writes())


def square(program, world, one, other):
    if not may_be_made(program, world, one) or not may_be_made(program, world, other):
        return None
    if mover(one) == mover(other) or -1 in (mover(one), mover(other)):
        return None
    return after_move(program, after_move(program, world, one), other)
