"""Puzzles changed: places renamed, deeds put to them or left out, puzzles beside one another or made of words."""

from shortdeeds.deeds import MOST_PLACES, is_deed_of, turned_by
from shortdeeds.errors import NoDeed, NoNumber, NoWord, TooMany
from shortdeeds.puzzles import MOST_DEEDS, deed_of, home, need_number, need_puzzle


def need_deed(thing, puzzle):
    """Refuse what is no deed of the puzzle's places."""
    if not is_deed_of(thing, len(puzzle[0])):
        raise NoDeed("a deed of the puzzle is a tuple of its places, each once")


def renamed(puzzle, names):
    """Tell the puzzle where each place has the name that the tuple has for it."""
    need_puzzle(puzzle)
    need_deed(names, puzzle)
    # From a place's name back to the place, on by the deed, and on to the name there.
    return tuple([turned_by(deed, names) for deed in puzzle])


def with_deed(puzzle, deed):
    """Tell the puzzle with a deed more behind its others."""
    need_puzzle(puzzle)
    need_deed(deed, puzzle)
    if len(puzzle) == MOST_DEEDS:
        raise TooMany("a puzzle has at most three deeds")
    return puzzle + (deed,)


def without(puzzle, number):
    """Tell the puzzle without the deed of that number."""
    need_puzzle(puzzle)
    need_number(number, len(puzzle) - 1)
    if len(puzzle) == 1:
        raise NoNumber("the only deed of a puzzle is not left out")
    return puzzle[:number] + puzzle[number + 1:]


def beside(puzzle, other):
    """Tell the puzzle of both puzzles, the places of the other numbered on behind the one's."""
    need_puzzle(puzzle)
    need_puzzle(other)
    places = len(puzzle[0])
    together = places + len(other[0])
    if together > MOST_PLACES or len(puzzle) + len(other) > MOST_DEEDS:
        raise TooMany("a puzzle has at most five places and three deeds")
    first = [deed + tuple(range(places, together)) for deed in puzzle]
    later = [home(puzzle) + tuple([places + number for number in deed]) for deed in other]
    return tuple(first + later)


def of_words(puzzle, some):
    """Tell the puzzle whose deeds are those of a list of one to three words, in order."""
    need_puzzle(puzzle)
    if not isinstance(some, list) or not 1 <= len(some) <= MOST_DEEDS:
        raise NoWord("the deeds come of a list of one to three words")
    return tuple([deed_of(puzzle, word) for word in some])
