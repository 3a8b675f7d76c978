"""The errors by which the program refuses what is handed in."""


class DeedError(ValueError):
    """Whatever is refused, is refused by a class straight under this one."""


class NoPuzzle(DeedError):
    """What was handed in as a puzzle is none."""


class NoStand(DeedError):
    """What was handed in as a stand is none of the puzzle."""


class NoWord(DeedError):
    """What was handed in as a word is none of the puzzle."""


class NoNumber(DeedError):
    """What was handed in as a number is none that is asked for."""


class TooMany(DeedError):
    """A puzzle would come to have too many deeds or places."""


class NoTable(DeedError):
    """What was handed in as a step table is none of the puzzle."""


class NoDeed(DeedError):
    """What was handed in as a deed is none of the puzzle's places."""


class NoLine(DeedError):
    """What a desk was told is no line."""


class NoText(DeedError):
    """What was handed in is no puzzle's text; at is the number of its first wrong word."""

    def __init__(self, at):
        self.at = at
