"""Halves: least words that are met in the middle, and papers of nets from both ends."""

from shortdeeds.deeds import done, undoing
from shortdeeds.puzzles import home, is_stand, letter_deeds, need_number, need_puzzle, need_stand
from shortdeeds.ways import words_within

MOST_HALF = 4


def halves(puzzle, stand, number):
    """Tell the stands that come from home, and those that come from the stand, by at most so many letters."""
    need_puzzle(puzzle)
    need_stand(stand, puzzle)
    need_number(number, MOST_HALF)
    return list(least_net(puzzle, home(puzzle), number)[-1]), list(least_net(puzzle, stand, number)[-1])


def met_word(puzzle, stand, number):
    """Tell the least word of the stand by halves of at most so many letters, None where they do not meet."""
    need_puzzle(puzzle)
    need_stand(stand, puzzle)
    need_number(number, MOST_HALF)
    firsts = words_within(puzzle, number)
    lasts = words_on(puzzle, stand, number)
    # A least word is made of a least one to each stand on its way, and of a least one from there.
    met = [firsts[middle] + lasts[middle] for middle in firsts if middle in lasts]
    if not met:
        return None
    return min(met, key=lambda word: (len(word), word))


def words_on(puzzle, stand, most):
    """Tell for each stand from which at most so many letters lead on to the given one the least such word."""
    deeds = letter_deeds(puzzle)
    found = {stand: ""}
    edge = [stand]
    for _ in range(most):
        edge = widened_back(found, edge, deeds)
    return found


def widened_back(found, edge, deeds):
    """Put to the found words those with one letter more ahead; tell the new stands."""
    # The edge stands in the order of its words. The letter ahead goes before them in that
    # order, so the letters are gone through outside: the first word for a stand is the least.
    fresh = []
    for letter, deed in deeds.items():
        for then in edge:
            stand = done(then, undoing(deed))
            if stand not in found:
                found[stand] = letter + found[then]
                fresh.append(stand)
    return fresh


def with_next(stands, puzzle):
    """Tell the stands and all that come from them by a letter, rising."""
    found = {stand: True for stand in stands}
    for deed in letter_deeds(puzzle).values():
        for stand in stands:
            found[done(stand, deed)] = True
    return sorted(found)


def least_net(puzzle, stand, number):
    """Tell the net of a stand with the fewest stands, of one tuple more than the number."""
    rows = [(stand,)]
    for _ in range(number):
        rows.append(tuple(with_next(rows[-1], puzzle)))
    return tuple(rows)


def is_net(thing, puzzle, stand):
    """Tell whether a thing of whatever kind is a net of the stand."""
    if not isinstance(thing, tuple) or len(thing) == 0:
        return False
    if not all([is_rising_row(row, puzzle) for row in thing]):
        return False
    steps = [has_next(thing[at], thing[at + 1], puzzle) for at in range(len(thing) - 1)]
    return stand in thing[0] and all(steps)


def is_rising_row(thing, puzzle):
    """Tell whether a thing of whatever kind is a rising tuple of stands of the puzzle."""
    if not isinstance(thing, tuple) or not all([is_stand(stand, puzzle) for stand in thing]):
        return False
    return all([thing[at] < thing[at + 1] for at in range(len(thing) - 1)])


def has_next(row, later, puzzle):
    """Tell whether the later row has all stands of the row, and all that come from them by a letter."""
    return all([stand in later for stand in with_next(row, puzzle)])


def have_common(row, other):
    """Tell whether two rows have a stand in common."""
    return any([stand in other for stand in row])


def net_bound(thing, puzzle, stand):
    """Tell the bound of a net paper of the stand, None of whatever else."""
    need_puzzle(puzzle)
    need_stand(stand, puzzle)
    if not isinstance(thing, tuple) or len(thing) != 2:
        return None
    if not is_net(thing[0], puzzle, home(puzzle)) or not is_net(thing[1], puzzle, stand):
        return None
    if have_common(thing[0][-1], thing[1][-1]):
        return None
    return len(thing[0]) + len(thing[1]) - 2


def net_paper(puzzle, stand, number, other):
    """Tell the net paper with the fewest stands for two numbers, None where the nets meet."""
    need_puzzle(puzzle)
    need_stand(stand, puzzle)
    need_number(number, MOST_HALF)
    need_number(other, MOST_HALF)
    ahead = least_net(puzzle, home(puzzle), number)
    behind = least_net(puzzle, stand, other)
    if have_common(ahead[-1], behind[-1]):
        return None
    return ahead, behind
