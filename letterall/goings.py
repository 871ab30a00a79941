"""Going through the pairs (world, bit) that runs come to, the nearest ones first."""

from letterall.claims import bit_of, broken
from letterall.deeds import after_move, moves
from letterall.worlds import first


class Trail:
    """The pairs come to, in the order in which they were first come to."""

    def __init__(self):
        self.pairs = []
        self.origins = []
        self.places = {}

    def come_to(self, pair, origin):
        """Whether the pair is a new one. Its origin is the place of the pair ahead and the deed from there."""
        if pair in self.places:
            return False
        self.places[pair] = len(self.pairs)
        self.pairs.append(pair)
        self.origins.append(origin)
        return True

    def way_to(self, place):
        """The deeds by which the pair at a place was first come to; there is no shorter way to it."""
        deeds = []
        origin = self.origins[place]
        while origin is not None:
            deeds.append(origin[1])
            origin = self.origins[origin[0]]
        return list(reversed(deeds))

    def way(self):
        """The deeds by which the last pair was first come to."""
        return self.way_to(len(self.pairs) - 1)


def go_through(program, claim, most, deeds_at):
    """What is told of the pairs, a word, and their trail: it ends with the broken one where one is broken.

    Of a world deeds_at tells the pairs (deed, world) by which one goes on from it.
    """
    trail = Trail()
    start = first(program)
    trail.come_to((start, bit_of(program, claim, start, False)), None)
    word = told_of_last(program, claim, most, trail)
    at = 0
    while word == "whole" and at < len(trail.pairs):
        word = gone_on(program, claim, most, trail, at, deeds_at)
        at = at + 1
    return (word, trail)


def gone_on(program, claim, most, trail, at, deeds_at):
    """Comes to the pairs behind the one at a place, until the word is no longer whole."""
    ahead = trail.pairs[at]
    for deed, world in deeds_at(ahead[0]):
        pair = (world, bit_of(program, claim, world, ahead[1]))
        if trail.come_to(pair, (at, deed)):
            word = told_of_last(program, claim, most, trail)
            if word != "whole":
                return word
    return "whole"


def told_of_last(program, claim, most, trail):
    last = trail.pairs[-1]
    if broken(program, claim, last[0], last[1]):
        return "broken"
    return "more" if len(trail.pairs) > most else "whole"


def moves_and_worlds(program, world):
    """Each move that may be made, with the world that it leads to."""
    return [(move, after_move(program, world, move)) for move in moves(program, world)]
