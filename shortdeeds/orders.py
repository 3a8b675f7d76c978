"""Again and again: deeds done many times, stands turned by words, and words that can be exchanged."""

from shortdeeds.deeds import done, is_whole, turned_by
from shortdeeds.errors import NoNumber
from shortdeeds.puzzles import deed_of, home, need_puzzle, need_stand, need_word
from shortdeeds.ways import reached, words


def order(puzzle, word):
    """Tell the least number from 1 on, done so many times the word leads home to home."""
    deed = deed_of(puzzle, word)
    many = 1
    now = deed
    while now != home(puzzle):
        now = done(now, deed)
        many += 1
    return many


def power(puzzle, word, number):
    """Tell the deed of a word done so many times."""
    need_puzzle(puzzle)
    need_word(word, puzzle)
    if not is_whole(number) or number < 0:
        raise NoNumber("how many times a word is done is a whole number from 0 on")
    deed = deed_of(puzzle, word)
    now = home(puzzle)
    # Done as many times as its order the word changes nothing, so only what is over counts.
    for _ in range(number % order(puzzle, word)):
        now = done(now, deed)
    return now


def turned_stand(puzzle, stand, word):
    """Tell the stand turned by a word."""
    need_puzzle(puzzle)
    need_stand(stand, puzzle)
    need_word(word, puzzle)
    return turned_by(stand, deed_of(puzzle, word))


def lot(puzzle, stand):
    """Tell all stands that come of a stand, turned by any words, rising."""
    need_puzzle(puzzle)
    need_stand(stand, puzzle)
    # The deeds of all words are just the stands that are come to.
    return sorted(set([turned_by(stand, deed) for deed in reached(puzzle)]))


def turning_word(puzzle, stand, other):
    """Tell the least word by which the one stand is turned to the other, None where there is none."""
    need_puzzle(puzzle)
    need_stand(stand, puzzle)
    need_stand(other, puzzle)
    # The words come in their order, so the first one that does is the least.
    for deed, word in words(puzzle).items():
        if turned_by(stand, deed) == other:
            return word
    return None


def can_exchange(puzzle, word, other):
    """Tell whether both words lead from home to the same stand in either order."""
    need_puzzle(puzzle)
    need_word(word, puzzle)
    need_word(other, puzzle)
    return deed_of(puzzle, word + other) == deed_of(puzzle, other + word)


def middle(puzzle):
    """Tell the stands that are come to and are their own lot alone, rising."""
    return [stand for stand in reached(puzzle) if is_lot_alone(stand, puzzle)]


def is_lot_alone(stand, puzzle):
    """Tell whether a stand, turned by any word, is itself."""
    # Each letter turns it to itself just where its deed does, and so then does each word.
    return all([turned_by(stand, deed) == stand for deed in puzzle])
