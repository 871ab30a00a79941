"""Sets of hands as whole numbers: bit h is set where hand h is in the set."""


def has(some, hand):
    return (some >> hand) & 1 == 1


def members(some):
    return tuple([hand for hand in range(some.bit_length()) if has(some, hand)])


def set_of(hands):
    some = 0
    for hand in hands:
        some = some | (1 << hand)
    return some


def many(some):
    return len(members(some))
