"""Patterns: worlds with a pair (low, high) in the place of each number."""

from letterall.pairs import is_pair, is_within, spanned
from letterall.parts import NAMES, NUMBERS, PLACE, replaced
from letterall.worlds import LEFT_STILL, PARTS, ROWS, has_world_form


def is_pattern(program, thing):
    return has_world_form(program, thing, is_pair)


def pattern_of(world):
    # With a world itself on both sides each number is its own low and its own high.
    return zipped(world, world, lambda low, high: (low, high))


def lies_in(world, pattern):
    return within(pattern_of(world), pattern)


def within(one, other):
    if not are_alike(one, other):
        return False
    return all([is_within(pair, bounds) for pair, bounds in zip(numbers_in(one), numbers_in(other))])


def joined(one, other):
    if not are_alike(one, other):
        return None
    return zipped(one, other, spanned)


def numbers_in(world):
    """The numbers of a world, or the pairs of a pattern: those of the hands, then those of the letters."""
    numbers = []
    for mine in world[PARTS]:
        numbers.extend(mine[NUMBERS])
    for letters in all_letters(world):
        numbers.extend([letter[1] for letter in letters])
    return numbers


def all_letters(world):
    """The letters of each row, in the order of the rows."""
    found = []
    for rows in world[ROWS]:
        found.extend(rows)
    return found


def zipped(one, other, reckon):
    """The first of two that are alike, with what is reckoned of both in the place of each of its numbers."""
    parts = [zipped_part(mine, another, reckon) for mine, another in zip(one[PARTS], other[PARTS])]
    rows = [zipped_rows(rows, others, reckon) for rows, others in zip(one[ROWS], other[ROWS])]
    return (tuple(parts), tuple(rows), one[LEFT_STILL])


def zipped_part(mine, another, reckon):
    numbers = [reckon(number, against) for number, against in zip(mine[NUMBERS], another[NUMBERS])]
    return replaced(mine, NUMBERS, tuple(numbers))


def zipped_rows(rows, others, reckon):
    return tuple([zipped_letters(letters, against, reckon) for letters, against in zip(rows, others)])


def zipped_letters(letters, others, reckon):
    return tuple([replaced(letter, 1, reckon(letter[1], other[1])) for letter, other in zip(letters, others)])


def are_alike(one, other):
    """Whether all but the pairs of two patterns is the same."""
    if one[LEFT_STILL] != other[LEFT_STILL]:
        return False
    for mine, another in zip(one[PARTS], other[PARTS]):
        if mine[PLACE] != another[PLACE] or mine[NAMES:] != another[NAMES:]:
            return False
    for letters, others in zip(all_letters(one), all_letters(other)):
        if [without_number(letter) for letter in letters] != [without_number(letter) for letter in others]:
            return False
    return True


def without_number(letter):
    return (letter[0], letter[2])
