"""What is left of a talk behind letters that were sent."""

from letterall.talks import named_in


def follow(talk, letter):
    # A letter is due only by the first line that names its sender: no line ahead of it does.
    for number, line in enumerate(talk):
        if letter[0] in named_in((line,)):
            rest = left_of_line(line, letter)
            return None if rest is None else talk[:number] + rest + talk[number + 1:]
    return None


def left(talk, letters):
    for letter in letters:
        if talk is not None:
            talk = follow(talk, letter)
    return talk


def left_of_line(line, letter):
    """The lines that are left of a line behind the letter that it says first; None where it does not say it first."""
    if line[0] == "say":
        return () if line[1:] == letter else None
    if (line[1], line[2][0]) != letter[:2]:
        return None
    says = tuple([("say", line[1], to, letter[2]) for to in line[2][1:]])
    if line[0] == "fork":
        talks = [talk for kind, talk in line[3] if kind == letter[2]]
        return says + talks[0] if len(talks) > 0 else None
    if letter[2] == line[3]:
        return says + line[4] + (line,)
    return says if letter[2] == line[5] else None
