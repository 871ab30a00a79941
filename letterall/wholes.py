"""What a whole number is, and tuples of whole numbers."""


def is_whole(thing):
    # Python holds True and False for numbers; the program doesn't.
    return isinstance(thing, int) and not isinstance(thing, bool)


def is_between(thing, low, high):
    return is_whole(thing) and low <= thing <= high


def is_tuple_of(thing, count):
    return isinstance(thing, tuple) and len(thing) == count


def are_between(thing, count, low, high):
    return is_tuple_of(thing, count) and all([is_between(each, low, high) for each in thing])
