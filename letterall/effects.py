"""What a hand's step makes of a world. The step may be done there, and the choice is one that it has."""

from letterall.bits import many, set_of
from letterall.choices import BELL_CHOICE, others_of
from letterall.parts import (NAMES, NOBODY, NUMBERS, SETS, at_place, has_fallen, moved_on, with_bell, with_name,
                             with_number, with_set)
from letterall.programs import hands_of
from letterall.worlds import part, row, with_part, with_row

NUMBER_WORDS = ("put", "copy", "raise", "sum", "choose")
NAME_WORDS = ("me", "only", "pick")
SET_WORDS = ("all", "empty", "join")


def after_step(program, world, hand, told, choice):
    if told[0] == "send":
        return after_send(world, hand, told)
    if told[0] == "take":
        return after_take(world, hand, told, choice)
    return with_part(world, hand, after_quiet(program, hand, part(world, hand), told, choice))


def after_quiet(program, hand, mine, told, choice):
    """The hand's part behind a step that touches nothing else."""
    word = told[0]
    if word in NUMBER_WORDS:
        return moved_on(with_number(mine, told[1], reckoned(mine[NUMBERS], told, choice)))
    if word in NAME_WORDS:
        return moved_on(with_name(mine, told[1], named(program, hand, told, choice)))
    if word in SET_WORDS:
        return moved_on(with_set(mine, told[1], gathered(program, hand, mine, told)))
    if word == "out":
        return after_out(mine, told, choice)
    if word == "bell":
        return moved_on(with_bell(mine, True))
    if goes_there(mine, told):
        return at_place(mine, told[-1])
    return moved_on(mine)


def reckoned(numbers, told, choice):
    word = told[0]
    if word == "put":
        return told[2]
    if word == "copy":
        return numbers[told[2]]
    if word == "raise":
        return numbers[told[1]] + told[2]
    if word == "sum":
        return numbers[told[1]] + numbers[told[2]]
    return choice


def named(program, hand, told, choice):
    word = told[0]
    if word == "me":
        return hand
    if word == "only":
        return hands_of(program, told[2])[0]
    return choice[0]


def gathered(program, hand, mine, told):
    word = told[0]
    if word == "all":
        return set_of(others_of(program, told[2], hand))
    if word == "empty":
        return 0
    some = mine[SETS][told[1]]
    name = mine[NAMES][told[2]]
    return some if name == NOBODY else some | set_of([name])


def goes_there(mine, told):
    """Whether a go, less, before, alike or many goes on at the place that it tells."""
    word = told[0]
    if word == "less":
        return mine[NUMBERS][told[1]] < told[2]
    if word == "before":
        return mine[NUMBERS][told[1]] < mine[NUMBERS][told[2]]
    if word == "alike":
        return mine[NAMES][told[1]] == mine[NAMES][told[2]]
    if word == "many":
        return many(mine[SETS][told[1]]) >= told[2]
    return True


def after_out(mine, told, choice):
    some = mine[SETS][told[2]]
    if some == 0:
        return at_place(mine, told[3])
    fewer = with_set(mine, told[2], some - set_of(choice))
    return moved_on(with_name(fewer, told[1], choice[0]))


def after_send(world, hand, told):
    mine = part(world, hand)
    moved = with_part(world, hand, moved_on(mine))
    to = mine[NAMES][told[1]]
    if to == NOBODY or has_fallen(part(world, to)):
        return moved
    letter = (told[2], mine[NUMBERS][told[3]], mine[NAMES][told[4]])
    return with_row(moved, hand, to, row(world, hand, to) + (letter,))


def after_take(world, hand, told, choice):
    line = [each for each in told[2] if each[0] == choice[1]][0]
    mine = at_place(part(world, hand), line[4])
    if choice == BELL_CHOICE:
        return with_part(world, hand, with_bell(mine, False))
    sender = choice[0]
    letters = row(world, sender, hand)
    mine = with_number(mine, line[1], letters[0][1])
    mine = with_name(mine, line[2], letters[0][2])
    mine = with_name(mine, line[3], sender)
    return with_part(with_row(world, sender, hand, letters[1:]), hand, mine)
