"""Words that move little: what words move, how they part the places, and words learned by heart."""

from shortdeeds.deeds import moved_places
from shortdeeds.puzzles import back_of, deed_of, need_number, need_puzzle, need_word
from shortdeeds.ways import words_within

MOST_MOVED = 5
MOST_LEARNED = 5


def moved(puzzle, word):
    """Tell the places that the deed of a word moves, rising."""
    return moved_places(deed_of(puzzle, word))


def exchange(puzzle, word, other):
    """Tell the one word, the other, the back of the one and the back of the other, as one word."""
    need_puzzle(puzzle)
    need_word(word, puzzle)
    need_word(other, puzzle)
    return word + other + back_of(puzzle, word) + back_of(puzzle, other)


def turned(puzzle, word, other):
    """Tell the word turned by the other: the other, the word and the back of the other, as one word."""
    need_puzzle(puzzle)
    need_word(word, puzzle)
    need_word(other, puzzle)
    return other + word + back_of(puzzle, other)


def rings(puzzle, word):
    """Tell how many places each ring of a word has, none greater than the one ahead."""
    deed = deed_of(puzzle, word)
    found = [ring_of(deed, place) for place in range(len(deed))]
    # A ring is found from each of its places, and counts at its least one.
    return tuple(sorted([len(ring) for ring in found if ring[0] == min(ring)], reverse=True))


def ring_of(deed, place):
    """Tell the places of a deed's ring, in the order in which one goes from the given one."""
    ring = [place]
    while deed[ring[-1]] != place:
        ring.append(deed[ring[-1]])
    return ring


def little_word(puzzle, number, most):
    """Tell the least word of at most so many letters that moves just so many places, None where there is none."""
    need_puzzle(puzzle)
    need_number(number, MOST_MOVED)
    need_number(most, MOST_LEARNED)
    # The words come in their order, so the first one that does is the least.
    for deed, word in words_within(puzzle, most).items():
        if len(moved_places(deed)) == number:
            return word
    return None


def learned(puzzle, most):
    """Tell the least word of each stand that comes by words of at most so many letters."""
    need_puzzle(puzzle)
    need_number(most, MOST_LEARNED)
    return words_within(puzzle, most)
