"""Claims: looked over, their bits, where they are broken, and to what they are blind."""

from letterall.checks import perhaps
from letterall.errors import NoClaim
from letterall.forms import is_claim
from letterall.programs import ROLES, look_over

# The word of the mark of the box that a test of a hand names, by the test's own word.
MARKED = {
    "number": "number",
    "has": "name",
    "many": "set",
}


def look_over_claim(program, claim):
    if not is_claim(claim, len(program[ROLES])):
        raise NoClaim("no claim of the program")


def look_over_both(program, claim, words):
    """Refuses what is no program, then what is no claim of it, then a claim of another word than these."""
    look_over(program)
    look_over_claim(program, claim)
    if claim[0] not in words:
        raise NoClaim("a claim of another word")


def bit_of(program, claim, world, ahead):
    """The bit at a world, or over a pattern, by the bit ahead."""
    if claim[0] == "never":
        return False
    if claim[0] == "behind":
        return ahead or perhaps(program, world, claim[2]) is True
    if perhaps(program, world, claim[2]) is True:
        return False
    return ahead or perhaps(program, world, claim[1]) is True


def broken(program, claim, world, bit):
    """Whether the claim is broken at a world, or may be at one of a pattern."""
    if claim[0] == "comes" or (claim[0] == "behind" and bit):
        return False
    return perhaps(program, world, claim[1]) is not False


def bit_over(program, claim, pattern, ahead):
    return bit_of(program, claim, pattern, ahead)


def broken_over(program, claim, pattern, bit):
    return broken(program, claim, pattern, bit)


def blind(claim, role, places, marks):
    for test in hand_tests(claim, role):
        if test[0] == "at" and test[1] in places:
            return False
        if mark_of(test) in marks:
            return False
    return True


def hand_tests(claim, role):
    """The tests of a hand in the claim's counts of a role, those within others too."""
    counts = [test for test in all_within(claim[1:]) if test[0] == "count"]
    return all_within([count[2] for count in counts if count[1] == role])


def all_within(tests):
    """The tests, and those within each not, both and either of them."""
    found = []
    due = list(tests)
    while len(due) > 0:
        test = due.pop()
        found.append(test)
        if test[0] in ("not", "both", "either"):
            due.extend(test[1:])
    return found


def mark_of(test):
    """The mark of the box that a test of a hand names, None where it names none."""
    if test[0] == "bell":
        return ("bell",)
    if test[0] in MARKED:
        return (MARKED[test[0]], test[1])
    return None
