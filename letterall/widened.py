"""Widening: looks for a paper of few rows, whose patterns grow until they stand for all that runs come to."""

from letterall.claims import bit_of, bit_over, broken_over, look_over_both
from letterall.pairs import spanned
from letterall.papers import PAPER_WORDS
from letterall.patterns import pattern_of, within, zipped
from letterall.programs import HANDS
from letterall.renamings import same
from letterall.spreads import spread
from letterall.stretches import marks_of, stretched
from letterall.worlds import first

# How often a row grows by no more than it must, and then how often as far as to marks; then it loses its bounds.
EXACTLY = 2
TO_MARKS = 20


class Row:
    """A row that may grow; it is due where its outcomes are not taken in since it last grew."""

    def __init__(self, pattern, bit):
        self.pattern = pattern
        self.bit = bit
        self.steps = ()
        self.grown = 0
        self.is_due = True


class Widener:
    """The rows for a program and a claim, and the numbers of those with one bit and all alike but for pairs."""

    def __init__(self, program, claim):
        self.program = program
        self.claim = claim
        self.marks = marks_of(program, claim)
        self.rows = []
        self.alike = {}
        self.perhaps = None

    def take_in(self, pattern, bit):
        """The number of the row, grown or new where it must be, in which the pattern lies with its bit."""
        shape = (zipped(pattern, pattern, lambda one, other: 0), bit)
        numbers = self.alike.get(shape, ())
        for number in numbers:
            if within(pattern, self.rows[number].pattern):
                return number
        if len(numbers) > 0 and self.grows(self.rows[numbers[-1]], pattern):
            return numbers[-1]
        self.alike[shape] = numbers + (len(self.rows),)
        self.rows.append(Row(pattern, bit))
        if broken_over(self.program, self.claim, pattern, bit):
            self.perhaps = pattern
        return len(self.rows) - 1

    def grows(self, row, pattern):
        """Grows the row over the pattern, unless the claim would be broken there."""
        for wider in self.wider_ones(row, pattern):
            if not broken_over(self.program, self.claim, wider, row.bit):
                row.pattern = wider
                row.grown = row.grown + 1
                row.is_due = True
                return True
        return False

    def wider_ones(self, row, pattern):
        """The patterns to which the row may grow, the best one first."""
        # By no marks a bound that must grow is lost, so that no row grows for ever.
        marks = self.marks if row.grown < EXACTLY + TO_MARKS else []
        far = zipped(row.pattern, pattern, lambda old, new: stretched(old, new, marks))
        near = zipped(row.pattern, pattern, spanned)
        if row.grown < EXACTLY:
            return [near]
        return [far, near] if row.grown < EXACTLY + TO_MARKS else [far]

    def go_on(self, row):
        """Takes in the outcomes of a row."""
        row.is_due = False
        steps = {}
        for move, outcome in spread(self.program, row.pattern):
            bit = bit_over(self.program, self.claim, outcome, row.bit)
            steps[(self.take_in(outcome, bit), same(len(self.program[HANDS])))] = True
        row.steps = tuple(steps)

    def go_round(self, most):
        """Takes in the outcomes of each row that is due; whether none is due then."""
        at = 0
        while at < len(self.rows) <= most and self.perhaps is None:
            if self.rows[at].is_due:
                self.go_on(self.rows[at])
            at = at + 1
        return not any([row.is_due for row in self.rows])


def widened(program, claim, most):
    look_over_both(program, claim, PAPER_WORDS)
    widener = Widener(program, claim)
    start = first(program)
    widener.take_in(pattern_of(start), bit_of(program, claim, start, False))
    settled = False
    while not settled and widener.perhaps is None and len(widener.rows) <= most:
        settled = widener.go_round(most)
    if widener.perhaps is not None:
        return ("perhaps", widener.perhaps)
    if len(widener.rows) > most:
        return ("more",)
    return ("paper", [(row.pattern, row.bit, None, row.steps) for row in widener.rows])
