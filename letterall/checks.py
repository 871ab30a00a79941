"""What tests tell: at a world True or False, over a pattern also None, where they hold at some of its worlds alone."""

from letterall.bits import many
from letterall.pairs import cut, is_void, pair_of
from letterall.parts import BELL, NAMES, NOBODY, NUMBERS, PLACE, SETS, has_fallen
from letterall.programs import hands_of
from letterall.worlds import ROWS, part


def holds(program, world, test):
    return perhaps(program, world, test)


def perhaps(program, pattern, test):
    """What a test tells over a pattern. A world is asked likewise: of single numbers None is never told."""
    word = test[0]
    if word == "count":
        told = [passes(part(pattern, hand), test[2]) for hand in hands_of(program, test[1])]
        return told_between((told.count(True), len(told) - told.count(False)), test[3], test[4])
    if word == "letters":
        return told_between(pair_of(letters_of(pattern, test[1])), test[2], test[3])
    return put_together(word, [perhaps(program, pattern, each) for each in test[1:]])


def letters_of(world, kind):
    amount = 0
    for rows in world[ROWS]:
        for letters in rows:
            amount = amount + len([letter for letter in letters if letter[0] == kind])
    return amount


def passes(mine, test):
    """What a test of a hand tells of the hand's part."""
    word = test[0]
    if word == "at":
        return mine[PLACE] == test[1]
    if word == "number":
        number = mine[NUMBERS][test[1]]
        pair = number if isinstance(number, tuple) else pair_of(number)
        return told_between(pair, test[2], test[3])
    if word == "has":
        return mine[NAMES][test[1]] != NOBODY
    if word == "many":
        return many(mine[SETS][test[1]]) >= test[2]
    if word == "bell":
        return mine[BELL]
    if word == "fallen":
        return has_fallen(mine)
    return put_together(word, [passes(mine, each) for each in test[1:]])


def told_between(pair, low, high):
    """True where all numbers of the pair are within the bounds, False where none is, else None."""
    shared = cut(pair, (low, high))
    if is_void(shared):
        return False
    return True if shared == pair else None


def put_together(word, told):
    """What a not, a both or an either tells, by what is told of the tests in it."""
    if word == "not":
        return None if told[0] is None else not told[0]
    decisive = word == "either"
    if decisive in told:
        return decisive
    return None if None in told else not decisive
