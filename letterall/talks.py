"""Talks: who says what to whom, told for all hands together."""

from letterall.errors import NoTalk
from letterall.wholes import is_between, is_tuple_of

LINES_AT_MOST = 40
WITHIN_AT_MOST = 4
GREATEST_HAND = 3

# How many things a line has, by its word.
LENGTHS = {
    "say": 4,
    "fork": 4,
    "again": 6,
}


def look_over_talk(talk):
    if not isinstance(talk, tuple):
        raise NoTalk(())
    spots = []
    # The spots and lines to look at still, the next one last.
    due = list(reversed(spotted(talk, ())))
    while len(due) > 0:
        here = due.pop()
        if not is_line(here[1]):
            raise NoTalk(here[0])
        spots.append(here[0])
        due.extend(list(reversed(spotted_within(here[1], here[0]))))
    # A spot has one number for its line and two more for each line around it.
    if len(spots) > LINES_AT_MOST or any([len(spot) > 1 + 2 * WITHIN_AT_MOST for spot in spots]):
        raise NoTalk(())


def spotted(talk, ahead):
    return [(ahead + (number,), line) for number, line in enumerate(talk)]


def spotted_within(line, spot):
    found = []
    for number, talk in enumerate(inner_talks(line)):
        found.extend(spotted(talk, spot + (number,)))
    return found


def inner_talks(line):
    """The talks within a line, in their order."""
    if line[0] == "fork":
        return [talk for kind, talk in line[3]]
    return [line[4]] if line[0] == "again" else []


def is_line(thing):
    """Whether a thing is a line, whatever the lines within it are."""
    if not isinstance(thing, tuple) or len(thing) == 0 or not isinstance(thing[0], str):
        return False
    if len(thing) != LENGTHS.get(thing[0]):
        return False
    if not is_hand(thing[1]):
        return False
    if thing[0] == "say":
        return is_hand(thing[2]) and thing[1] != thing[2] and is_kind(thing[3])
    if not are_tos(thing[2], thing[1]):
        return False
    if thing[0] == "fork":
        return are_branches(thing[3])
    return is_kind(thing[3]) and isinstance(thing[4], tuple) and is_kind(thing[5]) and thing[3] != thing[5]


def is_hand(thing):
    return is_between(thing, 0, GREATEST_HAND)


def is_kind(thing):
    return is_between(thing, 1, 12)


def are_tos(thing, sender):
    if not isinstance(thing, tuple) or not 1 <= len(thing) <= 3 or not all([is_hand(hand) for hand in thing]):
        return False
    return sender not in thing and len(set(thing)) == len(thing)


def are_branches(thing):
    if not isinstance(thing, tuple) or not 2 <= len(thing) <= 5:
        return False
    if not all([is_branch(branch) for branch in thing]):
        return False
    return len(set([kind for kind, talk in thing])) == len(thing)


def is_branch(thing):
    return is_tuple_of(thing, 2) and is_kind(thing[0]) and isinstance(thing[1], tuple)


def hands_in(talk):
    look_over_talk(talk)
    return max(named_in(talk), default=-1) + 1


def named_in(lines):
    """The hands that lines, or lines within them, name, rising."""
    found = {}
    due = list(lines)
    while len(due) > 0:
        line = due.pop()
        for hand in (line[1],) + addressed_by(line):
            found[hand] = True
        for talk in inner_talks(line):
            due.extend(talk)
    return sorted(found)


def addressed_by(line):
    return (line[2],) if line[0] == "say" else line[2]
