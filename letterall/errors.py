"""The refusals: each a class of its own under LetterError, none under another one."""


class LetterError(ValueError):
    """Any refusal."""


class NoStep(LetterError):
    """A thing is no step."""


class NoProgram(LetterError):
    """A thing is no program: role and place of its first wrong step, -1 and -1 where something else is wrong."""

    def __init__(self, role, place):
        LetterError.__init__(self, f"no program (role {role}, place {place})")
        self.role = role
        self.place = place


class NoClaim(LetterError):
    """A thing is no claim of the program."""


class NoMove(LetterError):
    """A move may not be made: at is its place in the list of moves handed in."""

    def __init__(self, at):
        LetterError.__init__(self, f"no move (at {at})")
        self.at = at


class NoRenaming(LetterError):
    """A thing is no renaming of these hands."""


class NoTalk(LetterError):
    """A thing is no talk: spot leads to its first wrong line."""

    def __init__(self, spot):
        LetterError.__init__(self, f"no talk (spot {spot})")
        self.spot = spot


class CantKnow(LetterError):
    """A hand can't know which branch of the line at spot was chosen."""

    def __init__(self, spot, hand):
        LetterError.__init__(self, f"hand {hand} can't know the branch (spot {spot})")
        self.spot = spot
        self.hand = hand


class NoText(LetterError):
    """A thing is not the text of what was to be read."""


class NoLine(LetterError):
    """A thing is no row that a desk knows."""
