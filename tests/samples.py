"""Worlds and patterns written shortly, and things by chance, for the tests.

Every chance is a random.Random that the test has made with a number of its own, so each run is the same.
"""

import itertools

from letterall.claims import bit_of, broken
from letterall.deeds import do, moves
from letterall.runs import run
from letterall.worlds import first

BELL = ("bell",)


def mine(place=0, numbers=(0, 0, 0), names=(-1, -1, -1), sets=(0, 0), bell=False):
    return (place, numbers, names, sets, bell)


def world_of(parts, letters=(), left=(0, 0)):
    """A world with letters, told as a dict by (from, to)."""
    letters = dict(letters)
    hands = range(len(parts))
    rows = tuple(tuple(tuple(letters.get((sender, to), ())) for sender in hands) for to in hands)
    return (tuple(parts), rows, tuple(left))


def changed(thing, path, value):
    """A tuple with another value at the place to which the path leads."""
    if path == ():
        return value
    at = path[0]
    return thing[:at] + (changed(thing[at], path[1:], value),) + thing[at + 1:]


def at_path(thing, path):
    for at in path:
        thing = thing[at]
    return thing


def tuples_within(thing, path=()):
    if isinstance(thing, tuple):
        yield path
        for at, each in enumerate(thing):
            yield from tuples_within(each, path + (at,))


def numbers_within(thing, path=()):
    if isinstance(thing, tuple):
        for at, each in enumerate(thing):
            yield from numbers_within(each, path + (at,))
    elif isinstance(thing, int) and not isinstance(thing, bool):
        yield path


def with_truths(thing):
    """The tuple with a truth in the place of each 0 and 1 in turn."""
    for path in numbers_within(thing):
        if at_path(thing, path) in (0, 1):
            yield changed(thing, path, bool(at_path(thing, path)))


def some_step(chance, length, hands, roles, ahead=False):
    """Any step of a part of this length, each word as likely as the others; ahead: places above its own alone."""
    low = 0 if ahead is False else ahead + 1
    lone = [role for role in range(roles) if hands.count(role) == 1]
    box, place, role = (lambda: chance.randrange(3)), (lambda: chance.randint(low, length)), chance.randrange(roles)
    pair = chance.sample(range(3), 2)
    lines = tuple((kind, box(), *chance.sample(range(3), 2), place()) for kind in chance.sample(range(4), 3))
    some = [
        ("put", box(), chance.randint(-3, 3)), ("copy", box(), box()), ("raise", box(), chance.randint(-3, 3)),
        ("sum", box(), box()), ("choose", box(), chance.randint(1, 3)), ("less", box(), 1, place()),
        ("before", pair[0], pair[1], place()), ("go", place()), ("me", box()),
        ("pick", box(), role), ("alike", box(), box(), place()), ("all", chance.randrange(2), role),
        ("empty", chance.randrange(2)), ("join", chance.randrange(2), box()), ("out", box(), 0, place()),
        ("many", chance.randrange(2), 1, place()), ("send", box(), chance.randint(1, 3), box(), box()),
        ("take", chance.randint(-1, 2), lines), BELL]
    if lone:
        some.append(("only", box(), chance.choice(lone)))
    return chance.choice(some)


def some_program(chance, hands=(0, 0, 1, 2), roles=3, lengths=(4, 12), left=(1, 1), forward=False):
    """Any program; forward: no part ever goes back, so that its runs are short."""
    parts = []
    for role in range(roles):
        length = chance.randint(*lengths)
        parts.append(tuple(some_step(chance, length, hands, roles, place if forward else False)
                           for place in range(length)))
    return (chance.randint(1, 2), left, tuple(parts), hands)


def some_part(chance, length, hands, number):
    place = chance.randint(-1, length)
    numbers = tuple(number() for box in range(3))
    names = tuple(chance.randint(-1, hands - 1) for box in range(3))
    sets = tuple(chance.randrange(1 << hands) for box in range(2))
    return (place, numbers, names, sets, chance.random() < 0.5)


def some_row(chance, room, hands, number):
    return tuple((chance.randint(1, 3), number(), chance.randint(-1, hands - 1))
                 for letter in range(max(0, chance.randint(-2, room))))


def some_form(chance, program, number):
    room, left, roles, hands = program
    parts = tuple(some_part(chance, len(roles[role]), len(hands), number) for role in hands)
    rows = tuple(tuple(some_row(chance, room, len(hands), number) for sender in hands) for to in hands)
    return (parts, rows, tuple(chance.randint(0, most) for most in left))


def some_world(chance, program):
    """Any world by its form, whether a run comes to it or not."""
    return some_form(chance, program, lambda: chance.randint(-2, 2))


def some_pair(chance):
    low, high = sorted((chance.randint(-3, 3), chance.randint(-3, 3)))
    return (chance.choice((low, low, low, None)), chance.choice((high, high, high, None)))


def some_pattern(chance, program):
    return some_form(chance, program, lambda: some_pair(chance))


def some_bounds(chance, low, high):
    """Two bounds, perhaps turned about."""
    return tuple(chance.choice((None, chance.randint(low, high), chance.randint(low, high))) for bound in range(2))


def some_hand_test(chance, depth=2):
    words = ("not", "both", "either") if depth > 0 and chance.random() < 0.5 else (
        "at", "number", "number", "has", "many", "bell", "fallen")
    word = chance.choice(words)
    if word in ("not", "both", "either"):
        return (word,) + tuple(some_hand_test(chance, depth - 1) for each in range(1 if word == "not" else 2))
    return {
        "at": ("at", chance.randrange(6)),
        "number": ("number", chance.randrange(3)) + some_bounds(chance, -3, 3),
        "has": ("has", chance.randrange(3)),
        "many": ("many", chance.randrange(2), chance.randrange(4)),
    }.get(word, (word,))


def some_test(chance, roles, depth=2):
    if depth > 0 and chance.random() < 0.4:
        word = chance.choice(("not", "both", "either"))
        return (word,) + tuple(some_test(chance, roles, depth - 1) for each in range(1 if word == "not" else 2))
    if chance.random() < 0.3:
        return ("letters", chance.randint(1, 3)) + some_bounds(chance, 0, 3)
    return ("count", chance.randrange(roles), some_hand_test(chance)) + some_bounds(chance, 0, 3)


def some_claim(chance, roles, words=("never", "behind", "comes")):
    word = chance.choice(words)
    return (word,) + tuple(some_test(chance, roles) for each in range(1 if word == "never" else 2))


def breaks_at(program, claim, worlds):
    """The place of the first world of a run at which the claim is broken, None where it is nowhere."""
    bit = False
    for at, world in enumerate(worlds):
        bit = bit_of(program, claim, world, bit)
        if broken(program, claim, world, bit):
            return at
    return None


def some_fitting_claim(chance, program, words=("never", "behind")):
    """A claim that the first world does not break, but, if such a one is found soon, some run does."""
    claims = [some_claim(chance, len(program[2]), words) for each in range(60)]
    runs = [run(program, lambda may: chance.randrange(1000), 12)[1] for each in range(4)]
    fitting = [claim for claim in claims if breaks_at(program, claim, runs[0]) != 0]
    for claim in fitting:
        if any(breaks_at(program, claim, worlds) is not None for worlds in runs):
            return claim
    return fitting[0] if fitting else claims[0]


def permutations_keeping(hands):
    """All renamings that keep these roles, by trying every order."""
    return [p for p in itertools.permutations(range(len(hands))) if all(hands[p[h]] == hands[h] for h in range(len(p)))]


def pairs_by_slow_going(program, claim, most, made_at):
    """Going through pairs, word by word as the document tells it: made_at tells the moves that are made at a world.

    Told are a word, the pairs come to, and the moves by which each was first come to.
    """
    start = first(program)
    pairs = [(start, bit_of(program, claim, start, False))]
    ways = {pairs[0]: []}
    if broken(program, claim, *pairs[0]):
        return ("broken", pairs, ways)
    for world, ahead in pairs:
        for move in made_at(world):
            after = do(program, world, move)
            pair = (after, bit_of(program, claim, after, ahead))
            if pair not in ways:
                pairs.append(pair)
                ways[pair] = ways[(world, ahead)] + [move]
                if broken(program, claim, *pair):
                    return ("broken", pairs, ways)
                if len(pairs) > most:
                    return ("more", pairs, ways)
    return ("whole", pairs, ways)


def slow_count_fault(program, claim, counts):
    """The first fault of counts whose rows have a good form."""
    rows = {(world, bit): (count, hand) for world, bit, count, hand in counts}
    start = first(program)
    if (start, bit_of(program, claim, start, False)) not in rows:
        return ("first",)
    for number, (world, bit, count, hand) in enumerate(counts):
        behind = []
        for move in moves(program, world):
            after = do(program, world, move)
            behind.append((move, (after, bit_of(program, claim, after, bit))))
        if any(pair not in rows for move, pair in behind):
            return ("list", number)
        if not bit:
            continue
        if count == 0 or not any(move[:2] == ("do", hand) for move, pair in behind):
            return ("hand", number)
        owing = [(move, *rows[pair]) for move, pair in behind if pair[1]]
        if any(there > count or (there == count and who != hand) for move, there, who in owing):
            return ("grows", number)
        if any(there == count and move[:2] == ("do", hand) for move, there, who in owing):
            return ("stays", number)
    return None


def some_line(chance, depth, hands, kinds, most):
    """Any line; who is not told what a fork chose is often told by somebody else, so that it can be known."""
    sender = chance.choice(hands)
    others = [hand for hand in hands if hand != sender]
    tos = tuple(chance.sample(others, chance.randint(1, min(3, len(others)))))
    what = chance.random()
    if what < 0.45 or depth == 0:
        return ("say", sender, tos[0], chance.randint(1, kinds))
    if what < 0.85:
        return some_fork(chance, depth, sender, others, kinds, most)
    more, on = chance.sample(range(1, kinds + 2), 2)
    within = [sender, *tos] if chance.random() < 0.9 else hands
    return ("again", sender, tos, more, some_talk(chance, depth - 1, within, kinds, most), on)


def some_fork(chance, depth, sender, others, kinds, most):
    tos = tuple(chance.sample(others, chance.choice((1, 1, min(2, len(others)), len(others)))))
    speakers = {hand: chance.choice((sender, *tos)) for hand in others if hand not in tos and chance.random() < 0.75}
    count = chance.randint(2, 3)
    branches = []
    for kind in chance.sample(range(1, max(kinds, count) + 1), count):
        order = chance.sample(list(speakers), len(speakers))
        heads = tuple(some_head(chance, depth, speakers[hand], hand, kinds) for hand in order)
        branches.append((kind, heads + some_talk(chance, depth - 1, [sender, *tos, *order], kinds, most)))
    if chance.random() < 0.4:
        branches = [(kind, branches[0][1]) for kind, talk in branches]
    return ("fork", sender, tos, tuple(branches))


def some_head(chance, depth, speaker, hand, kinds):
    """A line by which the hand may know what was chosen."""
    one, other = chance.sample(range(1, kinds + 3), 2)
    what = chance.random()
    if what < 0.25:
        return ("again", speaker, (hand,), one, some_talk(chance, depth - 2, [speaker, hand], kinds, 1), other)
    if what < 0.4 and depth > 1:
        talks = [some_talk(chance, depth - 2, [speaker, hand], kinds, 1) for each in range(2)]
        return ("fork", speaker, (hand,), ((one, talks[0]), (other, talks[1])))
    return ("say", speaker, hand, one)


def some_talk(chance, depth, hands, kinds, most):
    if depth < 0:
        return ()
    return tuple(some_line(chance, depth, hands, kinds, most) for each in range(chance.randint(0, most)))


def some_whole_talk(chance):
    return some_talk(chance, chance.choice((1, 2, 2, 3)), list(range(chance.choice((2, 3, 3, 4)))),
                     chance.randint(1, 3), chance.randint(1, 3))
