"""Bounds: how far a stand is at least, by heights, by counting, by signs and by moved places."""

from shortdeeds.deeds import done, is_whole, moved_places
from shortdeeds.puzzles import home, is_stand, need_number, need_puzzle, need_stand
from shortdeeds.ways import reached, words

MOST_LETTERS = 9


def is_height_paper(thing, puzzle):
    """Tell whether a thing of whatever kind is a height paper of the puzzle."""
    need_puzzle(puzzle)
    if not isinstance(thing, dict) or not has_just_reached(thing, puzzle):
        return False
    if not all([is_whole(height) and height >= 0 for height in thing.values()]):
        return False
    return thing[home(puzzle)] == 0 and changes_little(thing, puzzle)


def has_just_reached(table, puzzle):
    """Tell whether the keys of a dict are the stands that are come to, and nothing else."""
    found = words(puzzle)
    # A key with truths in it is equal to a stand and yet none, so its kinds are asked, too.
    return len(table) == len(found) and all([is_stand(key, puzzle) and key in found for key in table])


def changes_little(heights, puzzle):
    """Tell whether by each letter the number of each stand changes by 1 at most."""
    # A back changes the numbers of the same two stands as its deed.
    return all([abs(heights[done(stand, deed)] - heights[stand]) <= 1 for stand in heights for deed in puzzle])


def height_paper(puzzle):
    """Tell the height paper with the greatest numbers: how far each stand is."""
    return {stand: len(word) for stand, word in words(puzzle).items()}


def plain_many(puzzle, number):
    """Tell how many plain words of just so many letters the puzzle has."""
    need_puzzle(puzzle)
    need_number(number, MOST_LETTERS)
    return plain_count(len(puzzle), number)


def plain_count(deeds, number):
    """Count the plain words of just so many letters that so many deeds give."""
    if number == 0:
        return 1
    many = 2 * deeds
    for _ in range(number - 1):
        # Behind a letter any may follow but its own great or small one.
        many = many * (2 * deeds - 1)
    return many


def count_bound(puzzle):
    """Tell the least k such that plain words of at most k letters are no fewer than the stands come to."""
    stands = len(reached(puzzle))
    letters = 0
    many = 1
    while many < stands:
        letters += 1
        many += plain_count(len(puzzle), letters)
    return letters


def sign(puzzle, stand):
    """Tell the sign of a stand."""
    need_puzzle(puzzle)
    need_stand(stand, puzzle)
    return deed_sign(stand)


def deed_sign(deed):
    """Tell 1 where the number of twos of places, the lesser one with the greater number, is even, else -1."""
    places = range(len(deed))
    twos = [greater for greater in places for lesser in range(greater) if deed[lesser] > deed[greater]]
    if len(twos) % 2 == 0:
        return 1
    return -1


def signs(puzzle):
    """Tell the signs of the puzzle's deeds."""
    need_puzzle(puzzle)
    return tuple([deed_sign(deed) for deed in puzzle])


def is_barred(puzzle, stand):
    """Tell whether the stand has the sign -1 where all deeds have 1, so that it is not come to."""
    return sign(puzzle, stand) == -1 and -1 not in signs(puzzle)


def moved_bound(puzzle, stand):
    """Tell the least number of letters that could move so many places as the stand has moved."""
    need_puzzle(puzzle)
    need_stand(stand, puzzle)
    many = len(moved_places(stand))
    most = max([len(moved_places(deed)) for deed in puzzle])
    if many == 0:
        return 0
    if most == 0:
        return None
    # A letter more where the places do not come out even.
    return (many + most - 1) // most
