"""A desk: it is told rows of text, and answers each with texts."""

from letterall.claims import look_over_claim
from letterall.comings import look
from letterall.cuts import program_of
from letterall.deeds import do, moves
from letterall.errors import NoClaim, NoLine, NoProgram, NoText
from letterall.folded import go_folded
from letterall.papers import fault
from letterall.plainly import go_plainly
from letterall.programs import look_over
from letterall.ranks import count_fault
from letterall.runs import run
from letterall.texts import read_things, show
from letterall.thinned import go_thinned
from letterall.wholes import is_whole
from letterall.worlds import is_world

# What stands behind the word of each row; a thing is held against nothing but by the deed itself.
ROWS = {
    "program": ("thing",),
    "claim": ("thing",),
    "moves": ("world",),
    "do": ("world", "thing"),
    "run": ("most", "picks"),
    "plain": ("most",),
    "folded": ("most",),
    "thin": ("most",),
    "comes": ("most",),
    "check": ("thing",),
    "counts": ("thing",),
    "talk": ("thing", "thing"),
}


class Desk:
    """It keeps a program, and a claim of it, None where there is none."""

    def __init__(self):
        self.program = None
        self.claim = None

    def say(self, row):
        word = word_of(row)
        things = things_of(row)
        if len(things) != len(ROWS[word]):
            raise NoLine("more or fewer things than the row has")
        if word == "program":
            return self.take_program(things[0])
        if word == "talk":
            return [show(program_of(things[0], things[1]))]
        if self.program is None:
            raise NoProgram(-1, -1)
        if not all([fits(self.program, slot, thing) for slot, thing in zip(ROWS[word], things)]):
            raise NoText("a thing that does not fit its place")
        if word == "claim":
            return self.take_claim(things[0])
        if word in ("moves", "do", "run"):
            return told_of_worlds(self.program, word, things)
        if self.claim is None:
            raise NoClaim("no claim was told")
        return [show(told_of_claim(self.program, self.claim, word, things[0]))]

    def take_program(self, program):
        look_over(program)
        self.program = program
        self.claim = None
        return []

    def take_claim(self, claim):
        look_over_claim(self.program, claim)
        self.claim = claim
        return []


class Picks:
    """Numbers that are used in turn, round and round."""

    def __init__(self, numbers):
        self.numbers = numbers
        self.used = 0

    def pick(self):
        number = self.numbers[self.used % len(self.numbers)]
        self.used = self.used + 1
        return number


def word_of(row):
    if not isinstance(row, str) or row.partition(" ")[0] not in ROWS:
        raise NoLine("no row that a desk knows")
    return row.partition(" ")[0]


def things_of(row):
    parted = row.partition(" ")
    return [] if parted[1] == "" else read_things(parted[2])


def fits(program, slot, thing):
    if slot == "world":
        return is_world(program, thing)
    if slot == "most":
        return is_whole(thing) and thing >= 1
    if slot == "picks":
        return isinstance(thing, tuple) and len(thing) > 0 and all([is_whole(each) for each in thing])
    return True


def told_of_worlds(program, word, things):
    if word == "moves":
        return [show(move) for move in moves(program, things[0])]
    if word == "do":
        return [show(do(program, things[0], things[1]))]
    picks = Picks(things[1])
    worlds = run(program, lambda may: picks.pick(), things[0])[1]
    return [show(world) for world in worlds[1:]]


def told_of_claim(program, claim, word, thing):
    if word == "plain":
        return go_plainly(program, claim, thing)
    if word == "folded":
        return go_folded(program, claim, thing)
    if word == "thin":
        return go_thinned(program, claim, thing)
    if word == "comes":
        return look(program, claim, thing)
    if word == "check":
        return fault(program, claim, thing)
    return count_fault(program, claim, thing)
