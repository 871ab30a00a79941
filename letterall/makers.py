"""Papers made of the pairs (world, bit) that were gone through."""

from letterall.claims import bit_of
from letterall.goings import moves_and_worlds
from letterall.patterns import pattern_of
from letterall.programs import HANDS
from letterall.renamings import same


def paper_of(program, claim, pairs):
    return paper_by(program, claim, pairs, lambda world: (None, moves_and_worlds(program, world)))


def paper_by(program, claim, pairs, done_at):
    """A row for each pair. Of a world done_at tells the chosen hand, or None, and the pairs (move, world) behind it."""
    numbers = dict([(pair, number) for number, pair in enumerate(pairs)])
    names_kept = same(len(program[HANDS]))
    paper = []
    for world, bit in pairs:
        done = done_at(world)
        # A dict, so that what several moves lead to is listed once.
        steps = {}
        for move, after in done[1]:
            steps[(numbers[(after, bit_of(program, claim, after, bit))], names_kept)] = True
        paper.append((pattern_of(world), bit, done[0], tuple(steps)))
    return paper
