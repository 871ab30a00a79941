"""Worlds, patterns and moves with their hands renamed, and the least of a world's renamed ones."""

from letterall.bits import members, set_of
from letterall.errors import NoRenaming
from letterall.parts import NAMES, NOBODY, SETS, replaced
from letterall.renamings import is_renaming, keeping, undone
from letterall.worlds import LEFT_STILL, PARTS, ROWS, all_hands, part, row


def renamed(world, p):
    """The world renamed; numbers are left as they are, so a pattern is renamed as well."""
    if not is_renaming(p, len(world[PARTS])):
        raise NoRenaming("no renaming of as many hands as the world has")
    back = undone(p)
    parts = tuple([renamed_part(part(world, hand), p) for hand in back])
    rows = tuple([renamed_rows(world[ROWS][hand], p, back) for hand in back])
    return (parts, rows, world[LEFT_STILL])


def new_name(name, p):
    return name if name == NOBODY else p[name]


def renamed_part(mine, p):
    # Many parts name nobody, and least_by asks this very often.
    if mine[NAMES] == (NOBODY, NOBODY, NOBODY) and mine[SETS] == (0, 0):
        return mine
    names = tuple([new_name(name, p) for name in mine[NAMES]])
    sets = tuple([renamed_set(some, p) for some in mine[SETS]])
    return replaced(replaced(mine, NAMES, names), SETS, sets)


def renamed_set(some, p):
    return set_of([p[member] for member in members(some)])


def renamed_rows(rows, p, back):
    """The letters to one hand; back undoes p."""
    return tuple([renamed_letters(rows[hand], p) for hand in back])


def renamed_letters(letters, p):
    return tuple([(kind, number, new_name(name, p)) for kind, number, name in letters])


def renamed_move(move, p):
    # A move tells no number of hands, so p is held to be of as many as it says, and of the move's own hands.
    if not isinstance(p, tuple) or not is_renaming(p, len(p)) or max(hands_in(move)) >= len(p):
        raise NoRenaming("no renaming of the hands of the move")
    if move[0] == "do":
        return ("do", p[move[1]], renamed_choice(move[2], p))
    return (move[0],) + tuple([p[hand] for hand in move[1:]])


def hands_in(move):
    if move[0] != "do":
        return list(move[1:])
    if isinstance(move[2], tuple):
        return [move[1], move[2][0]]
    return [move[1]]


def renamed_choice(choice, p):
    if isinstance(choice, tuple):
        return (new_name(choice[0], p),) + choice[1:]
    return choice


def least(program, world):
    return least_by(turns_of(program), world)


def turns_of(program):
    """The renamings that keep roles, rising, each as a pair with what undoes it."""
    return [(p, undone(p)) for p in keeping(program)]


def least_by(turns, world):
    """The least of the worlds renamed by these turns, and the first renaming that leads to it."""
    # Tuples compare thing by thing: the turns that lead to the least world are those that are left when,
    # at each thing in its order, just those with the least one there are kept.
    # The place and the numbers stand first and hang on no names: most turns are dropped cheaply by them.
    heads = [mine[:NAMES] for mine in world[PARTS]]
    for hand in all_hands(world):
        turns = lowest(turns, [heads[back[hand]] for p, back in turns])
        turns = lowest(turns, [renamed_part(part(world, back[hand]), p) for p, back in turns])
    for to in all_hands(world):
        for sender in all_hands(world):
            if len(turns) > 1:
                turns = lowest(turns, [renamed_letters(row(world, back[sender], back[to]), p) for p, back in turns])
    chosen = turns[0][0]
    return (renamed(world, chosen), chosen)


def lowest(turns, keys):
    """The turns with the least key, in their order."""
    least_key = min(keys)
    return [turn for turn, key in zip(turns, keys) if key == least_key]
