"""What a talk tells each hand to do, and which hand can't know it."""

from letterall.errors import CantKnow
from letterall.talks import GREATEST_HAND, inner_talks


def told_to_each(talk, ahead):
    """For each hand, from 0 on, its acts of a good talk; the spots of its lines begin as told."""
    told = [()] * (GREATEST_HAND + 1)
    for number, line in enumerate(talk):
        more = line_told_to_each(line, ahead + (number,))
        told = [mine + others for mine, others in zip(told, more)]
    return told


def line_told_to_each(line, spot):
    # The lines within come first: what can't be known there is refused ahead of what can't be known here.
    within = [told_to_each(talk, spot + (number,)) for number, talk in enumerate(inner_talks(line))]
    found = []
    for hand in range(GREATEST_HAND + 1):
        mine = [each[hand] for each in within]
        if line[0] == "say":
            found.append(acts_of_say(line, hand))
        elif hand == line[1]:
            found.append(acts_of_chooser(line, mine))
        elif hand in line[2]:
            found.append(acts_of_hearer(line, mine))
        elif not any(mine):
            found.append(())
        else:
            found.append(acts_of_other(line, mine, spot, hand))
    return found


def acts_of_say(line, hand):
    if hand == line[1]:
        return (("tell", line[2], line[3]),)
    if hand == line[2]:
        return (("hear", line[1], ((line[3], ()),)),)
    return ()


def tells(tos, kind):
    return tuple([("tell", to, kind) for to in tos])


def acts_of_chooser(line, within):
    """Those of the hand that chooses, by its acts of each talk within the line."""
    if line[0] == "again":
        return (("round", tells(line[2], line[3]) + within[0], tells(line[2], line[5])),)
    some = [tells(line[2], branch[0]) + mine for branch, mine in zip(line[3], within)]
    return (("pick", tuple(some)),)


def acts_of_hearer(line, within):
    """Those of a hand that is told what was chosen."""
    if line[0] == "again":
        return (("heed", line[1], line[3], within[0], line[5]),)
    rows = [(branch[0], mine) for branch, mine in zip(line[3], within)]
    return (("hear", line[1], tuple(sorted(rows))),)


def acts_of_other(line, within, spot, hand):
    """Those of a hand that is not told what was chosen, though lines within name it."""
    told = None if line[0] == "again" else heard_in_all(within)
    if told is None:
        raise CantKnow(spot, hand)
    return (told,)


def heard_in_all(branches):
    """The hear by which a hand knows how to go on, whichever branch was chosen; None where there is none."""
    speakers = {}
    rows = {}
    for mine in branches:
        if len(mine) == 0 or mine[0][0] not in ("hear", "heed"):
            return None
        speakers[mine[0][1]] = True
        for kind, deeds in first_heard(mine):
            if rows.setdefault(kind, deeds) != deeds:
                return None
    if len(speakers) > 1:
        return None
    return ("hear", sorted(speakers)[0], tuple(sorted(rows.items())))


def first_heard(mine):
    """Each kind that may be heard first by acts that begin with a hear or a heed, with what is done behind it."""
    act = mine[0]
    rest = mine[1:]
    if act[0] == "hear":
        return [(kind, deeds + rest) for kind, deeds in act[2]]
    # Behind what is heeded within, one heeds again.
    return [(act[2], act[3] + mine), (act[4], rest)]
