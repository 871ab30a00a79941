"""Texts of things: whole numbers, None, True, False, words, and tuples of these, written and read."""

from letterall.claims import look_over_claim
from letterall.errors import NoText
from letterall.programs import look_over
from letterall.talks import look_over_talk

FIGURES = "0123456789"
LETTERS = "abcdefghijklmnopqrstuvwxyz"
FIGURES_AT_MOST = 60
DEEP_AT_MOST = 30

NAMED = {
    "none": None,
    "yes": True,
    "no": False,
}


def show(thing):
    # A list is written as a tuple is, so that whatever is told can be shown.
    if isinstance(thing, (list, tuple)):
        return "(" + " ".join([show(each) for each in thing]) + ")"
    if thing is None:
        return "none"
    if isinstance(thing, bool):
        return "yes" if thing else "no"
    return str(thing)


def read(text):
    if not isinstance(text, str):
        raise NoText("no text")
    things = read_things(text)
    if len(things) != 1:
        raise NoText("more than one thing")
    return things[0]


def read_things(text):
    """The list of one or more things whose texts, parted by single blanks, the text is."""
    # The things of each tuple that is not closed yet; those of the text itself first.
    levels = [[]]
    for piece in text.split(" "):
        opened = piece.lstrip("(")
        core = opened.rstrip(")")
        openings = len(piece) - len(opened)
        closings = len(opened) - len(core)
        if core == "" and (openings == 0 or closings == 0):
            raise NoText("a blank too many")
        levels.extend([[] for opening in range(openings)])
        if len(levels) > 1 + DEEP_AT_MOST or closings >= len(levels):
            raise NoText("too deep, or not opened")
        if core != "":
            levels[-1].append(read_plain(core))
        for closing in range(closings):
            closed = tuple(levels.pop())
            levels[-1].append(closed)
    if len(levels) > 1:
        raise NoText("not closed")
    return levels[0]


def read_plain(text):
    """The thing, no tuple, whose text it is."""
    if text in NAMED:
        return NAMED[text]
    if all([sign in LETTERS for sign in text]):
        return text
    figures = text[1:] if text[0] == "-" else text
    if not is_number(figures) or text == "-0":
        raise NoText("no number and no word")
    return int(text)


def is_number(figures):
    if not 1 <= len(figures) <= FIGURES_AT_MOST or not all([sign in FIGURES for sign in figures]):
        return False
    return figures == "0" or figures[0] != "0"


def read_program(text):
    program = read(text)
    look_over(program)
    return program


def read_claim(text, program):
    claim = read(text)
    look_over_claim(program, claim)
    return claim


def read_talk(text):
    talk = read(text)
    look_over_talk(talk)
    return talk
