"""Deeds by themselves: which things are deeds, and how deeds are done, undone and turned."""

MOST_PLACES = 5


def is_whole(thing):
    """Tell whether a thing is a whole number."""
    # Python counts True and False as ints; here they are no numbers.
    return isinstance(thing, int) and not isinstance(thing, bool)


def is_whole_to(thing, most):
    """Tell whether a thing of whatever kind is a whole number from 0 to the most."""
    return is_whole(thing) and 0 <= thing <= most


def is_deed(thing):
    """Tell whether a thing of whatever kind is a deed of one to five places."""
    if not isinstance(thing, tuple) or not 1 <= len(thing) <= MOST_PLACES:
        return False
    # Only numbers can be sorted with one another, so their kind is asked first.
    if not all([is_whole(number) for number in thing]):
        return False
    return sorted(thing) == list(range(len(thing)))


def is_deed_of(thing, places):
    """Tell whether a thing of whatever kind is a deed of so many places."""
    return is_deed(thing) and len(thing) == places


def done(stand, deed):
    """Tell the stand that comes from a stand by a deed."""
    return tuple([stand[place] for place in deed])


def undoing(deed):
    """Tell the back of a deed."""
    return tuple([deed.index(place) for place in range(len(deed))])


def turned_by(stand, deed):
    """Tell the stand that comes from home by a deed, then the stand as a deed, then the deed's back."""
    # From home the deed leads to itself.
    return done(done(deed, stand), undoing(deed))


def moved_places(deed):
    """Tell the places at which a deed has another number, rising."""
    return [place for place in range(len(deed)) if deed[place] != place]
