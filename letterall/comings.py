"""What always comes: looked for over all pairs (world, bit) that runs come to."""

from letterall.claims import look_over_both
from letterall.goings import go_through, moves_and_worlds
from letterall.knots import knots
from letterall.rings import ring_in
from letterall.webs import Knot, Web
from letterall.worlds import all_hands, first


def look(program, claim, most):
    look_over_both(program, claim, ("comes",))
    gone = go_through(program, claim, most, lambda world: moves_and_worlds(program, world))
    if gone[0] == "more":
        return ("more",)
    trail = gone[1]
    web = Web(program, claim, trail)
    for spot, able in zip(web.spots, web.able):
        if len(able) == 0:
            return ("stuck", trail.way_to(spot))
    tied = [Knot(web, nodes) for nodes in knots(web.targets())]
    due = [knot.due_hand() for knot in tied]
    if -1 in due:
        ring = tied[due.index(-1)]
        way = trail.way_to(web.spots[ring.nodes[0]])
        return ("ring", way, ring_in(ring, all_hands(first(program))))
    return ("comes", counted(trail, web, tied, due))


def counted(trail, web, tied, due):
    """The counts: those of an owing pair tell its knot, and the hand that leads out of it."""
    owed = {}
    # A knot stands behind all to which ways lead from it, so out of it one comes to smaller counts alone.
    for number, knot in enumerate(tied):
        for node in knot.nodes:
            owed[web.spots[node]] = (number + 1, due[number])
    return [pair + owed.get(place, (0, -1)) for place, pair in enumerate(trail.pairs)]
