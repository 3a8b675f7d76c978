"""The stands that are come to, and their least words."""

from shortdeeds.deeds import done
from shortdeeds.puzzles import home, letter_deeds, need_puzzle, need_stand


def words(puzzle):
    """Tell the least word of each stand that is come to."""
    need_puzzle(puzzle)
    deeds = letter_deeds(puzzle)
    start = home(puzzle)
    found = {start: ""}
    edge = [start]
    while edge:
        edge = widened(found, edge, deeds)
    return found


def words_within(puzzle, most):
    """Tell the least word of each stand that comes by at most so many letters, the words in their order."""
    deeds = letter_deeds(puzzle)
    start = home(puzzle)
    found = {start: ""}
    edge = [start]
    for _ in range(most):
        edge = widened(found, edge, deeds)
    return found


def widened(found, edge, deeds):
    """Put to the found words those one letter longer than the edge's; tell the new stands."""
    # The edge stands in the order of its words, and the letters in theirs: so the
    # longer words are made in their order, and the first one for a stand is the least.
    fresh = []
    for stand in edge:
        for letter, deed in deeds.items():
            then = done(stand, deed)
            if then not in found:
                found[then] = found[stand] + letter
                fresh.append(then)
    return fresh


def reached(puzzle):
    """Tell all stands that are come to, rising."""
    return sorted(words(puzzle))


def least_word(puzzle, stand):
    """Tell the least word of a stand, None where it is not come to."""
    need_puzzle(puzzle)
    need_stand(stand, puzzle)
    return words(puzzle).get(stand)


def far(puzzle, stand):
    """Tell how many letters the least word of a stand has, None where it is not come to."""
    word = least_word(puzzle, stand)
    if word is None:
        return None
    return len(word)


def counts(puzzle):
    """Tell at place k how many stands have a least word of k letters."""
    lengths = [len(word) for word in words(puzzle).values()]
    return [lengths.count(many) for many in range(max(lengths) + 1)]


def farthest(puzzle):
    """Tell the first, as tuples are ordered, of the stands that are farthest."""
    found = words(puzzle)
    most = max([len(word) for word in found.values()])
    return min([stand for stand in found if len(found[stand]) == most])
