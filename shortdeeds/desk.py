"""A desk: it is told lines, keeps a puzzle and a stand of it, and answers with texts."""

from shortdeeds.bounds import sign
from shortdeeds.errors import NoLine, NoNumber, NoText
from shortdeeds.orders import order
from shortdeeds.places import place_lots
from shortdeeds.puzzles import behind, home, is_word
from shortdeeds.steps import led_home, step_table
from shortdeeds.texts import figures_of, read, show
from shortdeeds.ways import far, least_word, reached

FIRST_PUZZLE = ((0,),)
NO_LETTERS = "none"


def say_stand(_, stand):
    """Answer by the stand."""
    return figures_of(stand)


def say_deeds(puzzle, _):
    """Answer by the puzzle's text."""
    return show(puzzle)


def say_many(puzzle, _):
    """Answer how many stands are come to."""
    return str(len(reached(puzzle)))


def say_far(puzzle, stand):
    """Answer how far the stand is."""
    return str(far(puzzle, stand))


def say_least(puzzle, stand):
    """Answer by the least word that leads from home to the stand."""
    return letters_of(least_word(puzzle, stand))


def say_steps(puzzle, stand):
    """Answer by the word that leads the stand home by the least step table."""
    return letters_of(led_home(puzzle, step_table(puzzle), stand))


def say_sign(puzzle, stand):
    """Answer by the sign of the stand."""
    return str(sign(puzzle, stand))


def say_lots(puzzle, _):
    """Answer by the lots of places, a blank between each two."""
    return " ".join([figures_of(places) for places in place_lots(puzzle)])


ANSWERS = {
    "stand": say_stand,
    "deeds": say_deeds,
    "many": say_many,
    "far": say_far,
    "least": say_least,
    "steps": say_steps,
    "sign": say_sign,
    "lots": say_lots,
}


def letters_of(word):
    """Write a word, so that the one without letters is seen, too."""
    if word == "":
        return NO_LETTERS
    return word


def told_word(parts, puzzle):
    """Tell the word of the puzzle that a line of two words has; refuse whatever else."""
    if len(parts) != 2 or parts[1] == "" or not is_word(parts[1], puzzle):
        raise NoLine("behind it stands one word of the puzzle, of one letter or more")
    return parts[1]


def told_puzzle(parts):
    """Tell the puzzle that is written behind the first word of a line; refuse whatever else."""
    try:
        return read(" ".join(parts[1:]))
    except NoText:
        raise NoLine("behind it stand the one to three deeds of a puzzle") from None


def told_change(parts, puzzle, stand):
    """Tell the puzzle and the stand that come by a line; refuse what is none."""
    if parts == ["home"]:
        return puzzle, home(puzzle)
    if parts[0] == "do":
        return puzzle, behind(puzzle, stand, told_word(parts, puzzle))
    if parts[0] == "puzzle":
        fresh = told_puzzle(parts)
        return fresh, home(fresh)
    raise NoLine("a desk has no such line")


class Desk:
    """A desk, which keeps a puzzle and a stand of it."""

    def __init__(self):
        # The puzzle and the stand of the beginning, then those behind each line that stands:
        # so what is undone leaves just what was there ahead of it.
        self.kept = [(FIRST_PUZZLE, home(FIRST_PUZZLE))]

    def say(self, line):
        """Answer a line, and do what it tells; refuse what is none."""
        if not isinstance(line, str):
            raise NoLine("a line is a text")
        puzzle, stand = self.kept[-1]
        if line in ANSWERS:
            answer = ANSWERS[line]
            return answer(puzzle, stand)
        parts = line.split(" ")
        if parts[0] == "order":
            return str(order(puzzle, told_word(parts, puzzle)))
        if line == "back":
            self.undo()
        else:
            self.kept.append(told_change(parts, puzzle, stand))
        return figures_of(self.kept[-1][1])

    def undo(self):
        """Undo the last line that changed something; refuse where there is none."""
        if len(self.kept) == 1:
            raise NoNumber("nothing that could be undone stands")
        self.kept.pop()
