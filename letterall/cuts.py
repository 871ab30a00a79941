"""Parts cut out of a talk: what each hand is told to do, and the steps by which it does it."""

from letterall.knows import told_to_each
from letterall.programs import look_over
from letterall.talks import hands_in, look_over_talk

# The hand that is written to, or listened to, is kept in a name box of its own.
PARTNER = 0
# What comes with letters, always a 0 and no name, and their sender go into boxes that are not asked again.
LETTER_NUMBER = 1
LETTER_NAME = 1
LETTER_SENDER = 2
# What was chosen is kept in a number box.
CHOSEN = 0


def acts(talk, hand):
    look_over_talk(talk)
    told = told_to_each(talk, ())
    return told[hand] if hand < len(told) else ()


def cut(talk, hand):
    return tuple(steps_of(acts(talk, hand), 0))


def program_of(talk, room):
    look_over_talk(talk)
    hands = tuple(range(hands_in(talk)))
    told = told_to_each(talk, ())
    program = (room, (0, 0), tuple([tuple(steps_of(told[hand], 0)) for hand in hands]), hands)
    look_over(program)
    return program


def steps_of(deeds, start):
    """The steps, at places from the start on, by which acts are done one behind the other."""
    steps = []
    for act in deeds:
        steps.extend(steps_of_act(act, start + len(steps)))
    return steps


def steps_of_act(act, start):
    if act[0] == "tell":
        return [("only", PARTNER, act[1]), ("send", PARTNER, act[2], LETTER_NUMBER, LETTER_NAME)]
    if act[0] == "hear":
        return steps_of_hear(act, start)
    if act[0] == "pick":
        return steps_of_pick(act, start)
    if act[0] == "round":
        return steps_of_round(act, start)
    return steps_of_heed(act, start)


def listening(speaker, kinds_and_places):
    lines = [(kind, LETTER_NUMBER, LETTER_NAME, LETTER_SENDER, place) for kind, place in kinds_and_places]
    return [("only", PARTNER, speaker), ("take", PARTNER, tuple(lines))]


def steps_of_hear(act, start):
    laid = laid_out([deeds for kind, deeds in act[2]], start + 2)
    kinds = [kind for kind, deeds in act[2]]
    return listening(act[1], list(zip(kinds, laid[0]))) + laid[1]


def steps_of_pick(act, start):
    some = act[1]
    # Behind the choose a less leads to each branch but the last, which therefore stands first.
    laid = laid_out(some[-1:] + some[:-1], start + len(some))
    leads = [("less", CHOSEN, number + 1, place) for number, place in enumerate(laid[0][1:])]
    return [("choose", CHOSEN, len(some))] + leads + laid[1]


def steps_of_round(act, start):
    body = steps_of(act[1], start + 2) + [("go", start)]
    end = start + 2 + len(body)
    return [("choose", CHOSEN, 2), ("less", CHOSEN, 1, end)] + body + steps_of(act[2], end)


def steps_of_heed(act, start):
    body = steps_of(act[3], start + 2) + [("go", start)]
    return listening(act[1], [(act[2], start + 2), (act[4], start + 2 + len(body))]) + body


def laid_out(some, start):
    """The places of several rows of acts, of which one is done, and the steps of all of them from the start on."""
    places = []
    steps = []
    # Where steps stand that lead from a row to the end, which is not known ahead of all rows.
    leaps = []
    for deeds in some:
        if len(deeds) > 0 and len(steps) > 0:
            leaps.append(len(steps))
            steps.append(None)
        places.append(start + len(steps) if len(deeds) > 0 else None)
        steps.extend(steps_of(deeds, start + len(steps)))
    end = start + len(steps)
    for leap in leaps:
        steps[leap] = ("go", end)
    return ([end if place is None else place for place in places], steps)
