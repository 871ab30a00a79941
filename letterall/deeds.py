"""Moves: which may be made at a world, and the world that each leads to."""

from letterall.choices import choices_of, step_now
from letterall.effects import after_step
from letterall.errors import NoMove
from letterall.parts import FALLEN, blank, has_fallen, replaced
from letterall.wholes import is_whole
from letterall.worlds import LEFT_STILL, PARTS, ROWS, all_hands, part, row, with_part, with_row


def moves(program, world):
    found = []
    for hand in all_hands(world):
        for choice in choices_of(program, world, hand):
            found.append(("do", hand, choice))
    return found + losses(world) + falls(world)


def losses(world):
    found = []
    if world[LEFT_STILL][0] == 0:
        return found
    for sender in all_hands(world):
        for to in all_hands(world):
            if len(row(world, sender, to)) > 0:
                found.append(("lose", sender, to))
    return found


def falls(world):
    if world[LEFT_STILL][1] == 0:
        return []
    return [("fall", hand) for hand in all_hands(world) if not has_fallen(part(world, hand))]


def mover(move):
    return move[1] if move[0] == "do" else -1


def do(program, world, move):
    if not may_be_made(program, world, move):
        raise NoMove(0)
    return after_move(program, world, move)


def after_move(program, world, move):
    """The world behind a move that may be made there."""
    if move[0] == "lose":
        return after_loss(world, move[1], move[2])
    if move[0] == "fall":
        return after_fall(world, move[1])
    told = step_now(program, world, move[1]).told()
    return after_step(program, world, move[1], told, move[2])


def may_be_made(program, world, move):
    # The form comes first: True equals 1, so a truth would be found among the moves.
    if not is_move(move):
        return False
    if move[0] == "lose":
        return move in losses(world)
    if move[0] == "fall":
        return move in falls(world)
    return 0 <= move[1] < len(world[PARTS]) and move[2] in choices_of(program, world, move[1])


def is_move(thing):
    """Whether a thing has the form of a move, at whatever world."""
    if not isinstance(thing, tuple) or not 2 <= len(thing) <= 3:
        return False
    if thing[0] == "do":
        return len(thing) == 3 and is_whole(thing[1]) and is_choice(thing[2])
    if thing[0] == "lose":
        return len(thing) == 3 and is_whole(thing[1]) and is_whole(thing[2])
    return thing[0] == "fall" and len(thing) == 2 and is_whole(thing[1])


def is_choice(thing):
    if isinstance(thing, tuple):
        return all([is_whole(each) for each in thing])
    return is_whole(thing)


def after_loss(world, sender, to):
    still = world[LEFT_STILL]
    shorter = with_row(world, sender, to, row(world, sender, to)[1:])
    return replaced(shorter, LEFT_STILL, (still[0] - 1, still[1]))


def after_fall(world, hand):
    still = world[LEFT_STILL]
    # Letters to the fallen hand are gone; those from it stay on their way.
    emptied = replaced(world, ROWS, replaced(world[ROWS], hand, ((),) * len(world[PARTS])))
    return replaced(with_part(emptied, hand, blank(FALLEN)), LEFT_STILL, (still[0], still[1] - 1))
