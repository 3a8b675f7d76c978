"""Home piece by piece: the places at which each piece may lie, and the words that lead it home from there."""

from shortdeeds.deeds import done, is_whole
from shortdeeds.errors import NoTable
from shortdeeds.puzzles import deed_of, is_word, need_puzzle, need_stand
from shortdeeds.ways import reached, words


def step_places(puzzle):
    """Tell for each piece where it lies in the stands that are come to and have all lesser pieces at home."""
    stands = reached(puzzle)
    return [piece_places(stands, piece) for piece in range(len(puzzle[0]))]


def piece_places(stands, piece):
    """Tell the places, rising, at which a piece lies in those stands that have all lesser pieces at home."""
    places = [stand.index(piece) for stand in stands if keeps_lesser(stand, piece)]
    return tuple(sorted(set(places)))


def keeps_lesser(deed, place):
    """Tell whether a deed has at each lesser place this one's own number."""
    return deed[:place] == tuple(range(place))


def is_step_table(thing, puzzle):
    """Tell whether a thing of whatever kind is a step table of the puzzle."""
    wanted = step_places(puzzle)
    if not isinstance(thing, list) or len(thing) != len(wanted):
        return False
    return all([is_step_row(row, piece, wanted[piece], puzzle) for piece, row in enumerate(thing)])


def is_step_row(thing, piece, places, puzzle):
    """Tell whether a thing of whatever kind is a dict of words that lead the piece home from just these places."""
    if not isinstance(thing, dict) or len(thing) != len(places):
        return False
    # A truth as a key is equal to a number and yet none.
    if not all([is_whole(place) and place in places for place in thing]):
        return False
    return all([is_step_word(word, piece, place, puzzle) for place, word in thing.items()])


def is_step_word(thing, piece, place, puzzle):
    """Tell whether a thing of whatever kind is a word that leads the piece home and keeps all lesser ones."""
    if not is_word(thing, puzzle):
        return False
    deed = deed_of(puzzle, thing)
    return keeps_lesser(deed, piece) and deed[piece] == place


def need_table(thing, puzzle):
    """Refuse what is no step table of the puzzle."""
    if not is_step_table(thing, puzzle):
        raise NoTable("a step table is a list of dicts, each with a word for each step place of its piece")


def step_table(puzzle):
    """Tell the step table of which each word is the least one."""
    found = words(puzzle)
    return [least_row(found, piece) for piece in range(len(puzzle[0]))]


def least_row(found, piece):
    """Tell for each step place of a piece the least word that leads it home."""
    row = {}
    # The words come in their order, so the first one for a place is the least.
    for deed, word in found.items():
        if keeps_lesser(deed, piece):
            row.setdefault(deed[piece], word)
    return row


def led_home(puzzle, table, stand):
    """Tell the word that leads a stand home by the table, None where the stand is not come to."""
    need_puzzle(puzzle)
    need_table(table, puzzle)
    need_stand(stand, puzzle)
    led = ""
    now = stand
    for piece, row in enumerate(table):
        place = now.index(piece)
        # The words keep what is come to apart from what is not, so just of a stand
        # that is not come to some piece lies, sooner or later, at no step place.
        if place not in row:
            return None
        led += row[place]
        now = done(now, deed_of(puzzle, row[place]))
    return led


def most_letters(puzzle, table):
    """Tell the most letters of the words that lead the stands home by the table."""
    need_puzzle(puzzle)
    need_table(table, puzzle)
    # For any choice of a step place for each piece there is a stand that is led home over
    # these places, so the longest words of all pieces come together in one.
    return sum([max([len(word) for word in row.values()]) for row in table])
