"""Which things are claims: the forms of claims and of the tests within them."""

from letterall.pairs import is_bound
from letterall.wholes import is_between, is_whole

CLAIM_FORMS = {
    "never": ("test",),
    "behind": ("test", "test"),
    "comes": ("test", "test"),
}

TEST_FORMS = {
    "count": ("role", "test of a hand", "share", "share"),
    "letters": ("kind", "amount", "amount"),
    "not": ("test",),
    "both": ("test", "test"),
    "either": ("test", "test"),
}

HAND_FORMS = {
    "at": ("place",),
    "number": ("box", "bound", "bound"),
    "has": ("box",),
    "many": ("set box", "members"),
    "bell": (),
    "fallen": (),
    "not": ("test of a hand",),
    "both": ("test of a hand", "test of a hand"),
    "either": ("test of a hand", "test of a hand"),
}

RANGES = {
    "kind": (1, 12),
    "place": (0, 60),
    "box": (0, 2),
    "set box": (0, 1),
    "members": (0, 6),
}


def is_claim(thing, roles):
    """Whether a thing is a claim of a program with so many roles."""
    return has_form(thing, CLAIM_FORMS.get(word_of(thing)), roles)


def word_of(thing):
    """The word that a tuple begins with, None where it begins with none."""
    if isinstance(thing, tuple) and len(thing) > 0 and isinstance(thing[0], str):
        return thing[0]
    return None


def has_form(thing, slots, roles):
    if slots is None or len(thing) != 1 + len(slots):
        return False
    for slot, each in zip(slots, thing[1:]):
        if not fits(slot, each, roles):
            return False
    return True


def fits(slot, thing, roles):
    if slot == "test":
        return has_form(thing, TEST_FORMS.get(word_of(thing)), roles)
    if slot == "test of a hand":
        return has_form(thing, HAND_FORMS.get(word_of(thing)), roles)
    if slot == "role":
        return is_between(thing, 0, roles - 1)
    if slot == "bound":
        return is_bound(thing)
    if slot == "share":
        return thing is None or is_between(thing, 0, 6)
    if slot == "amount":
        return thing is None or (is_whole(thing) and thing >= 0)
    bounds = RANGES[slot]
    return is_between(thing, bounds[0], bounds[1])
