"""Which choices a hand has at its step: one for each move by which it may do it."""

from letterall.bits import members
from letterall.parts import BELL, NAMES, NOBODY, PLACE, SETS, has_fallen
from letterall.programs import HANDS, ROOM, hands_of, step_at
from letterall.worlds import all_hands, part, row

BELL_CHOICE = (-1, 0)


def step_now(program, world, hand):
    """The step that the hand is at, None where it has fallen or is at its end."""
    return step_at(program, program[HANDS][hand], part(world, hand)[PLACE])


def others_of(program, role, hand):
    return [other for other in hands_of(program, role) if other != hand]


def choices_of(program, world, hand):
    """The choices, in their order; none where the hand may not do its step."""
    step = step_now(program, world, hand)
    if step is None:
        return []
    told = step.told()
    if told[0] == "choose":
        return list(range(told[2]))
    if told[0] == "pick":
        return [(other,) for other in others_of(program, told[2], hand)]
    if told[0] == "out":
        return out_choices(part(world, hand)[SETS][told[2]])
    if told[0] == "take":
        return take_choices(world, hand, told)
    if told[0] == "send" and not may_send(program, world, hand, told):
        return []
    return [0]


def out_choices(some):
    if some == 0:
        return [0]
    return [(member,) for member in members(some)]


def may_send(program, world, hand, told):
    to = part(world, hand)[NAMES][told[1]]
    if to == NOBODY or has_fallen(part(world, to)):
        return True
    return len(row(world, hand, to)) < program[ROOM]


def take_choices(world, hand, told):
    kinds = [line[0] for line in told[2]]
    found = []
    if 0 in kinds and part(world, hand)[BELL]:
        found.append(BELL_CHOICE)
    for sender in senders(world, hand, told[1]):
        letters = row(world, sender, hand)
        if len(letters) > 0 and letters[0][0] in kinds:
            found.append((sender, letters[0][0]))
    return found


def senders(world, hand, box):
    """The hands from which a take by this box (-1: from any) takes letters."""
    if box == -1:
        return all_hands(world)
    name = part(world, hand)[NAMES][box]
    return [] if name == NOBODY else [name]
