"""Spreads: what the moves at a pattern's worlds lead to, told as patterns."""

from letterall.choices import step_now
from letterall.deeds import after_move, moves
from letterall.effects import NUMBER_WORDS
from letterall.pairs import added, cut, is_void, more_by, pair_of
from letterall.parts import NUMBERS, at_place, moved_on, replaced, with_number
from letterall.worlds import part, with_part


def spread(program, pattern):
    outcomes = []
    # Numbers decide nothing of which moves may be made, so the pattern is asked as a world is.
    for move in moves(program, pattern):
        outcomes.extend([(move, outcome) for outcome in outcomes_of(program, pattern, move)])
    return outcomes


def outcomes_of(program, pattern, move):
    """The patterns that a move, which may be made, leads to."""
    if move[0] == "do":
        told = step_now(program, pattern, move[1]).told()
        if told[0] in ("less", "before") or told[0] in NUMBER_WORDS:
            parts = reckoned_parts(part(pattern, move[1]), told, move[2])
            return [with_part(pattern, move[1], mine) for mine in parts]
    outcome = after_move(program, pattern, move)
    if move[0] == "fall":
        fallen = replaced(part(outcome, move[1]), NUMBERS, (pair_of(0), pair_of(0), pair_of(0)))
        return [with_part(outcome, move[1], fallen)]
    return [outcome]


def reckoned_parts(mine, told, choice):
    """What a hand's part becomes by a step that reckons with numbers or goes by them."""
    if told[0] == "less":
        return after_less(mine, told[1], told[2], told[3])
    if told[0] == "before":
        return after_before(mine, told[1], told[2], told[3])
    return [moved_on(with_number(mine, told[1], reckoned_pair(mine[NUMBERS], told, choice)))]


def reckoned_pair(pairs, told, choice):
    word = told[0]
    if word == "put":
        return pair_of(told[2])
    if word == "copy":
        return pairs[told[2]]
    if word == "raise":
        return added(pairs[told[1]], pair_of(told[2]))
    if word == "sum":
        return added(pairs[told[1]], pairs[told[2]])
    return pair_of(choice)


def after_less(mine, box, number, place):
    pair = mine[NUMBERS][box]
    found = []
    below = cut(pair, (None, number - 1))
    if not is_void(below):
        found.append(at_place(with_number(mine, box, below), place))
    rest = cut(pair, (number, None))
    if not is_void(rest):
        found.append(moved_on(with_number(mine, box, rest)))
    return found


def after_before(mine, box, other, place):
    if box == other:
        return [moved_on(mine)]
    pair = mine[NUMBERS][box]
    against = mine[NUMBERS][other]
    found = []
    # Either both pairs are cut to some numbers or both to none, so the one tells it for both.
    below = cut(pair, (None, more_by(against[1], -1)))
    if not is_void(below):
        above = cut(against, (more_by(pair[0], 1), None))
        found.append(at_place(with_number(with_number(mine, box, below), other, above), place))
    rest = cut(pair, (against[0], None))
    if not is_void(rest):
        bounded = cut(against, (None, pair[1]))
        found.append(moved_on(with_number(with_number(mine, box, rest), other, bounded)))
    return found
