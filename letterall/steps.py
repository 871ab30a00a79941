"""Steps: which tuples are some, where one goes on behind them, what they may write."""

from letterall.errors import NoStep
from letterall.wholes import is_between, is_tuple_of, is_whole

FORMS = {
    "put": ("number box", "number"),
    "copy": ("number box", "number box"),
    "raise": ("number box", "number"),
    "sum": ("number box", "number box"),
    "choose": ("number box", "choices"),
    "less": ("number box", "number", "place"),
    "before": ("number box", "number box", "place"),
    "go": ("place",),
    "me": ("name box",),
    "only": ("name box", "lone role"),
    "pick": ("name box", "role"),
    "alike": ("name box", "name box", "place"),
    "all": ("set box", "role"),
    "empty": ("set box",),
    "join": ("set box", "name box"),
    "out": ("name box", "set box", "place"),
    "many": ("set box", "amount", "place"),
    "send": ("name box", "kind", "number box", "name box"),
    "take": ("name box or -1", "lines"),
    "bell": (),
}

BOUNDS = {
    "number box": (0, 2),
    "name box": (0, 2),
    "name box or -1": (-1, 2),
    "set box": (0, 1),
    "kind": (1, 12),
    "choices": (1, 20),
    "amount": (0, 6),
}

BRANCHING = ("less", "before", "alike", "out", "many")

# The boxes that a word writes are those that stand first behind it.
WRITTEN = {
    "put": ("number",),
    "copy": ("number",),
    "raise": ("number",),
    "sum": ("number",),
    "choose": ("number",),
    "me": ("name",),
    "only": ("name",),
    "pick": ("name",),
    "all": ("set",),
    "empty": ("set",),
    "join": ("set",),
    "out": ("name", "set"),
}


class Step:
    """A step; its tuple must be one that is_step lets by."""

    def __init__(self, form):
        self.form = form

    def told(self):
        return self.form

    def nexts(self, place):
        word = self.form[0]
        if word == "go":
            places = [self.form[1]]
        elif word == "take":
            places = [line[4] for line in self.form[2]]
        elif word in BRANCHING:
            places = [place + 1, self.form[-1]]
        else:
            places = [place + 1]
        return tuple(sorted(set(places)))

    def forward(self, place):
        return all([each > place for each in self.nexts(place)])

    def is_quiet_word(self):
        return self.form[0] not in ("send", "take")

    def writes(self):
        word = self.form[0]
        if word == "bell":
            return (("bell",),)
        if word == "take":
            return written_by_lines(self.form[2])
        return tuple(sorted(zip(WRITTEN.get(word, ()), self.form[1:])))


def written_by_lines(lines):
    marks = []
    for line in lines:
        if line[0] == 0:
            marks.append(("bell",))
        else:
            marks.extend([("number", line[1]), ("name", line[2]), ("name", line[3])])
    return tuple(sorted(set(marks)))


def step_of(told, length, counts):
    if not is_step(told, length, counts):
        raise NoStep("none of the forms that a step may have")
    return Step(told)


def is_step(told, length, counts):
    if not isinstance(told, tuple) or len(told) == 0:
        return False
    if not isinstance(told[0], str) or told[0] not in FORMS:
        return False
    slots = FORMS[told[0]]
    if len(told) != 1 + len(slots):
        return False
    return all([fits(slot, thing, length, counts) for slot, thing in zip(slots, told[1:])])


def fits(slot, thing, length, counts):
    if slot == "lines":
        return are_lines(thing, length)
    if slot == "number":
        return is_whole(thing)
    if slot == "place":
        return is_between(thing, 0, length)
    if slot == "role":
        return is_between(thing, 0, len(counts) - 1)
    if slot == "lone role":
        return is_between(thing, 0, len(counts) - 1) and counts[thing] == 1
    bounds = BOUNDS[slot]
    return is_between(thing, bounds[0], bounds[1])


def are_lines(thing, length):
    if not isinstance(thing, tuple) or not 1 <= len(thing) <= 13:
        return False
    if not all([is_line(line, length) for line in thing]):
        return False
    return len(set([line[0] for line in thing])) == len(thing)


def is_line(thing, length):
    if not is_tuple_of(thing, 5):
        return False
    if not is_between(thing[0], 0, 12) or not is_between(thing[4], 0, length):
        return False
    return all([is_between(box, 0, 2) for box in thing[1:4]]) and thing[2] != thing[3]
