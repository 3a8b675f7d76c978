"""Puzzles, their stands and their words."""

from shortdeeds.deeds import done, is_deed, is_deed_of, is_whole_to, undoing
from shortdeeds.errors import NoNumber, NoPuzzle, NoStand, NoWord

MOST_DEEDS = 3
SMALL_LETTERS = "xyz"
GREAT_LETTERS = "XYZ"


def is_puzzle(thing):
    """Tell whether a thing of whatever kind is a puzzle."""
    if not isinstance(thing, tuple) or not 1 <= len(thing) <= MOST_DEEDS:
        return False
    if not is_deed(thing[0]):
        return False
    return all([is_deed_of(deed, len(thing[0])) for deed in thing])


def is_stand(thing, puzzle):
    """Tell whether a thing of whatever kind is a stand of the puzzle."""
    need_puzzle(puzzle)
    return is_deed_of(thing, len(puzzle[0]))


def is_word(thing, puzzle):
    """Tell whether a thing of whatever kind is a word of the puzzle."""
    need_puzzle(puzzle)
    if not isinstance(thing, str):
        return False
    deeds = letter_deeds(puzzle)
    return all([letter in deeds for letter in thing])


def need_puzzle(thing):
    """Refuse what is no puzzle."""
    if not is_puzzle(thing):
        raise NoPuzzle("a puzzle is a tuple of one to three deeds of equally many places")


def need_stand(thing, puzzle):
    """Refuse what is no stand of the puzzle."""
    if not is_stand(thing, puzzle):
        raise NoStand("a stand is a tuple of the puzzle's pieces, each once")


def need_word(thing, puzzle):
    """Refuse what is no word of the puzzle."""
    if not is_word(thing, puzzle):
        raise NoWord("a word is a text of the letters that the puzzle has")


def need_number(thing, most):
    """Refuse what is no whole number from 0 to the most."""
    if not is_whole_to(thing, most):
        raise NoNumber("a number is a whole one, from 0 to the most that is told")


def letter_deeds(puzzle):
    """Tell the deed of each letter of the puzzle, the letters as texts are ordered."""
    deeds = {}
    # As texts, all great letters are less than all small ones.
    for letter, deed in zip(GREAT_LETTERS, puzzle):
        deeds[letter] = undoing(deed)
    for letter, deed in zip(SMALL_LETTERS, puzzle):
        deeds[letter] = deed
    return deeds


def home(puzzle):
    """Tell the stand with each piece at the place of its number."""
    need_puzzle(puzzle)
    return tuple(range(len(puzzle[0])))


def behind(puzzle, stand, word):
    """Tell the stand that comes from a stand by a word."""
    need_puzzle(puzzle)
    need_stand(stand, puzzle)
    need_word(word, puzzle)
    deeds = letter_deeds(puzzle)
    now = stand
    for letter in word:
        now = done(now, deeds[letter])
    return now


def deed_of(puzzle, word):
    """Tell the deed of a word: the stand that comes from home by it."""
    return behind(puzzle, home(puzzle), word)


def back_of(puzzle, word):
    """Tell the word that undoes a word."""
    need_puzzle(puzzle)
    need_word(word, puzzle)
    return word[::-1].swapcase()


def plain(puzzle, word):
    """Tell the word without letters that stand beside their own great or small one."""
    need_puzzle(puzzle)
    need_word(word, puzzle)
    # What is kept is plain at any time, so only its last letter can go with the next one.
    kept = []
    for letter in word:
        if kept and kept[-1] == letter.swapcase():
            kept.pop()
        else:
            kept.append(letter)
    return "".join(kept)
