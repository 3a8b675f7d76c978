"""Puzzles written as texts, and read from them."""

from shortdeeds.deeds import is_deed
from shortdeeds.errors import NoText
from shortdeeds.puzzles import MOST_DEEDS, need_puzzle

FIGURES = "01234"


def show(puzzle):
    """Write a puzzle: its deeds by their figures, a blank between each two."""
    need_puzzle(puzzle)
    return " ".join([figures_of(deed) for deed in puzzle])


def figures_of(numbers):
    """Write numbers from 0 to 4 by their figures, nothing between them."""
    return "".join([FIGURES[number] for number in numbers])


def read(text):
    """Read the puzzle that a text writes; refuse what is not written so."""
    if not isinstance(text, str):
        raise NoText(0)
    deeds = []
    for at, word in enumerate(text.split(" ")):
        numbers = figure_numbers(word)
        # The first deed has no other one ahead to be unlike to.
        fits = not deeds or len(numbers) == len(deeds[0])
        if at >= MOST_DEEDS or not is_deed(numbers) or not fits:
            raise NoText(at)
        deeds.append(numbers)
    return tuple(deeds)


def figure_numbers(word):
    """Tell the number of each figure of a word, -1 (which no deed has) for another sign."""
    return tuple([FIGURES.find(sign) for sign in word])
