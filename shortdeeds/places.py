"""Places together: lots of places, partings that hold, and the keepers of a place."""

from shortdeeds.deeds import is_whole
from shortdeeds.puzzles import home, need_number, need_puzzle
from shortdeeds.ways import reached


def place_lots(puzzle):
    """Tell the lots of places, each a rising tuple, by their least places."""
    stands = reached(puzzle)
    return sorted(set([led_places(stands, place) for place in home(puzzle)]))


def led_places(stands, place):
    """Tell the numbers, rising, that the stands have at a place."""
    return tuple(sorted(set([stand[place] for stand in stands])))


def is_held_parting(thing, puzzle):
    """Tell whether a thing of whatever kind is a parting of the puzzle that holds."""
    need_puzzle(puzzle)
    # A truth is equal to a number and yet none, so the kinds are asked, too.
    return is_rows_of_numbers(thing) and thing in held_partings(puzzle)


def is_rows_of_numbers(thing):
    """Tell whether a thing of whatever kind is a tuple of tuples of whole numbers."""
    if not isinstance(thing, tuple) or not all([isinstance(row, tuple) for row in thing]):
        return False
    return all([is_whole(number) for row in thing for number in row])


def held_partings(puzzle):
    """Tell all partings of the puzzle that hold, rising."""
    need_puzzle(puzzle)
    return sorted([parting for parting in all_partings(len(puzzle[0])) if holds(parting, puzzle)])


def all_partings(places):
    """Tell all partings of so many places."""
    found = [()]
    for place in range(places):
        found = [wider for parting in found for wider in with_place(parting, place)]
    return found


def with_place(parting, place):
    """Tell the partings that come of one by a greater place: put to one of its tuples, or alone."""
    together = [parting[:at] + (row + (place,),) + parting[at + 1:] for at, row in enumerate(parting)]
    return together + [parting + ((place,),)]


def holds(parting, puzzle):
    """Tell whether each deed has at the places of each tuple the places of one tuple."""
    return all([tuple(sorted([deed[place] for place in row])) in parting for deed in puzzle for row in parting])


def joining(puzzle, one, other):
    """Tell the parting with the most tuples that holds and has both places in one."""
    need_puzzle(puzzle)
    need_place(one, puzzle)
    need_place(other, puzzle)
    # What is together in each of several partings that hold makes one that holds, too, so
    # there is just one with the most tuples.
    return max([parting for parting in held_partings(puzzle) if are_together(one, other, parting)], key=len)


def are_together(one, other, parting):
    """Tell whether two places are in one tuple of a parting."""
    return any([one in row and other in row for row in parting])


def need_place(thing, puzzle):
    """Refuse what is no place of the puzzle."""
    need_number(thing, len(puzzle[0]) - 1)


def keepers(puzzle, place):
    """Tell the stands that are come to and have the place's own piece there, rising."""
    need_puzzle(puzzle)
    need_place(place, puzzle)
    return [stand for stand in reached(puzzle) if stand[place] == place]
