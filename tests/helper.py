"""What the tests share: samples, wrong things, and the document's words done plainly."""

import copy
import itertools
import unittest

from shortdeeds import errors

SMALL = "xyz"
GREAT = "XYZ"

ONE_PLACE = ((0,),)
ONE_PLACE_THRICE = ((0,), (0,), (0,))
RING = ((1, 2, 0),)
RING_AND_SWAP = ((1, 2, 0), (1, 0, 2))
FIVE = ((1, 0, 2, 3, 4), (1, 2, 3, 4, 0))


def all_deeds(places):
    return list(itertools.permutations(range(places)))


def some_of(things, step):
    """Every step-th thing, so that many cases are met without chance."""
    return list(itertools.islice(things, 0, None, step))


def sample_puzzles():
    """Puzzles of one to three deeds and of one to five places."""
    steps = {1: (1, 1, 1), 2: (1, 1, 1), 3: (1, 1, 7), 4: (1, 13, 401), 5: (5, 733, 92003)}
    found = []
    for places in steps:
        for many, step in enumerate(steps[places], start=1):
            rows = itertools.product(all_deeds(places), repeat=many)
            found.extend(some_of(rows, step))
    return found


def few_puzzles():
    """Some of the sample puzzles, with each number of deeds and of places."""
    found = [FIVE, RING_AND_SWAP, ((1, 0, 3, 2), (2, 3, 0, 1), (0, 1, 2, 3))]
    for places in range(1, 6):
        deeds = all_deeds(places)
        for many in (1, 2, 3):
            found.append(tuple(deeds[(7 * k + 3 * places + many) * 5 % len(deeds)] for k in range(many)))
    return found


def letters(puzzle):
    """The letters of a puzzle as texts are ordered."""
    return sorted(SMALL[:len(puzzle)] + GREAT[:len(puzzle)])


def move(puzzle, stand, letter):
    """The stand behind one letter, piece by piece."""
    lies = list(stand)
    for place, other in enumerate(puzzle[SMALL.index(letter.lower())]):
        if letter in SMALL:
            lies[place] = stand[other]
        else:
            lies[other] = stand[place]
    return tuple(lies)


def walk(puzzle, stand, word):
    for letter in word:
        stand = move(puzzle, stand, letter)
    return stand


def start_of(puzzle):
    return tuple(range(len(puzzle[0])))


def all_words(puzzle, most):
    """All words of at most so many letters, as words are ordered."""
    for many in range(most + 1):
        for word in itertools.product(letters(puzzle), repeat=many):
            yield "".join(word)


def levels(puzzle):
    """The stands that are come to, those of each distance in a set of its own."""
    found = [{start_of(puzzle)}]
    seen = set(found[0])
    while found[-1]:
        found.append({move(puzzle, stand, letter) for stand in found[-1] for letter in letters(puzzle)} - seen)
        seen |= found[-1]
    return found[:-1]


def least_words(puzzle):
    """For each stand that is come to its least word: the least of all that come one letter further."""
    found = {start_of(puzzle): ""}
    for level in levels(puzzle)[1:]:
        longer = {}
        for stand, word in found.items():
            for letter in letters(puzzle):
                then = move(puzzle, stand, letter)
                if then in level:
                    longer.setdefault(then, []).append(word + letter)
        for stand in level:
            shortest = min(len(word) for word in longer[stand])
            found[stand] = min(word for word in longer[stand] if len(word) == shortest)
    return found


def ball(puzzle, stand, most):
    """The stands that come from a stand by words of at most so many letters."""
    found = {stand}
    for _ in range(most):
        found |= {move(puzzle, one, letter) for one in found for letter in letters(puzzle)}
    return found


def turned_plainly(puzzle, stand, word):
    """The stand that comes from home by the word, then the stand as a deed, then the word's back."""
    now = walk(puzzle, start_of(puzzle), word)
    now = tuple(now[place] for place in stand)
    return walk(puzzle, now, word[::-1].swapcase())


def moved_many(stand):
    return sum(1 for place, number in enumerate(stand) if place != number)


def keeps(deed, many):
    """Whether a deed leaves the first so many places as they are."""
    return all(deed[place] == place for place in range(many))


def places_of_steps(puzzle):
    """For each piece the places where it lies in some stand come to with all lesser pieces at home."""
    stands = set().union(*levels(puzzle))
    return [tuple(sorted({stand.index(piece) for stand in stands if keeps(stand, piece)}))
            for piece in range(len(puzzle[0]))]


def table_of_steps(puzzle):
    """The step table of which each word is the least one of all that lead home so."""
    found = least_words(puzzle)
    table = []
    for piece, places in enumerate(places_of_steps(puzzle)):
        row = {}
        for place in places:
            fit = [word for deed, word in found.items() if keeps(deed, piece) and deed[piece] == place]
            row[place] = min(fit, key=lambda word: (len(word), word))
        table.append(row)
    return table


def other_tables(puzzle):
    """Step tables of the puzzle other than the least one, made anew each time."""
    longer = [{place: word + "xX" for place, word in row.items()} for row in table_of_steps(puzzle)]
    around = [{place: word.swapcase()[::-1] + word * 2 for place, word in reversed(row.items())}
              for row in table_of_steps(puzzle)]
    found = [longer, around]
    for piece, row in enumerate(table_of_steps(puzzle)):
        for place in row:
            one = table_of_steps(puzzle)
            one[piece][place] += "XxxXXx"
            found.append(one)
    return found


def no_tables(puzzle):
    """Things that are no step table of the puzzle."""
    table = table_of_steps(puzzle)
    places = len(table)
    found = things() + texts() + ["", "x", puzzle, start_of(puzzle), list(start_of(puzzle))]
    found.extend([tuple(table), dict(enumerate(table)), table[:-1], table[1:], table + [{}], table + [{places: ""}],
                  table + [table[-1]], [table], [], [{}] * places, [list(row) for row in table],
                  [list(row.values()) for row in table], [list(row.items()) for row in table], [None] * places,
                  [""] * places])
    for piece, row in enumerate(table):
        found.extend(table[:piece] + [other] + table[piece + 1:] for other in no_rows(puzzle, row, piece))
    return found


def no_rows(puzzle, row, piece):
    """Things that are not what a step table has for the piece, where it might have the row."""
    found = [{}, None, True, "", "x", (), [], [row], tuple(row.items()), list(row), tuple(row), 0, {"": row}]
    strange = ([place for place in range(-1, 7) if place not in row]
               + [None, "", "0", str(piece), (), (piece,), 10 ** 29])
    found.extend({**row, place: word} for place in strange for word in ("", row[piece]))
    for place, word in row.items():
        less = {other: told for other, told in row.items() if other != place}
        found.append(less)
        found.extend({**less, other: word} for other in strange)
        if place in (0, 1):
            found.append({**less, bool(place): word})
        wrong = [None, True, False, 0, piece, [], [word], (word,), {}, tuple(word), list(word) + [""], "w", word + "w",
                 word + " ", " " + word, "?" * 40, start_of(puzzle)]
        wrong.extend(letter + letter.swapcase() + word for letter in SMALL + GREAT if letter not in letters(puzzle))
        start = start_of(puzzle)
        for other in all_words(puzzle, 2):
            deed = walk(puzzle, start, other)
            if not keeps(deed, piece) or deed[piece] != place:
                wrong.append(other)
        found.extend({**row, place: other} for other in wrong)
    return found


def no_numbers(most):
    """Things that are no whole number from 0 to the most."""
    found = [thing for thing in things() if type(thing) is not int or not 0 <= thing <= most]
    found.extend(texts() + ["", "x", "1", str(most), most + 1, most + 2, -1, -2, -most - 1, 10 ** 15, -(10 ** 15)])
    found.extend([[most], (most,), {most: most}, [0, most], (0, most), (True,), [False]])
    return found


def things():
    """Things of whatever kind that are neither a puzzle nor a text, made anew each time."""
    return [
        0, 1, 3, -1, 10 ** 29, -(10 ** 29), True, False, None,
        [], (), {}, [[]], ((),), [()], ({},), ([],), (None,), (True,), (False,), ("",), (0,), (1,), (0, 1), [0],
        {0: 0}, {0: (0,)}, {(0,): ""}, {True: (0,)}, {(0, 1): "x"}, {"x": (1, 0)}, {None: []},
        [(0,)], [(1, 0), (0, 1)], [[1, 0]], ([0],), ([1, 0],), ({0: 0},), ({0: 1, 1: 0},),
        ((True,),), ((False,),), ((None,),), (("0",),), (("",),), ("0",), ("10", "01"), ((0,), "0"),
        ((1,),), ((-1,),), ((-1, 0),), ((-2, -1),), ((0, 0),), ((1, 1),), ((1, 2),), ((0, 2),), ((2, 0, 3),),
        ((0, 1, 2, 3, 5),), ((0, 1, 2, 3, 3),), ((0, 1, 2, 10 ** 29),), ((10 ** 29,),), ((-(10 ** 29), 0),),
        ((True, False),), ((False, True),), ((0, True),), ((False, 1),), ((2, True, 0),), ((False, 2, 1),),
        ((1, 0), (True, 0)), ((1, 0), (1, False)), ((0,), (0,), (False,)), ((0, None),), ((0, "1"),),
        ((0, [1]),), ((0, (1,)),), ((0, {}),), ((0, 1), None), ((0, 1), True), ((0, 1), 1), ((0, 1), "01"),
        ((0, 1), [1, 0]), ((0, 1), {}), ((0, 1), ()), ((),), ((), ()), ((0, 1), ((0, 1),)), (((0, 1),),),
        ((0,), (0, 1)), ((0, 1), (0,)), ((0, 1), (1, 0), (0, 1, 2)), ((0, 1, 2), (1, 0)), ((1, 0), (0, 2)),
        ((1, 0), (1, 1)), ((0,), (0,), (0,), (0,)), ((1, 0),) * 4, ((1, 0),) * 7,
        ((0, 1, 2, 3, 4, 5),), ((5, 4, 3, 2, 1, 0), (0, 1, 2, 3, 4, 5)),
        [[[[[[0]]]]]], ((((((0,),),),),),), {0: {0: {0: {0: {0: {}}}}}}, [({(1,): [{"x": None}]},)],
        ["x"], ("x",), {"x": "x"}, ["x", "X"], [""], ("x", "y"), [None, True, {"": [()]}],
    ]


def texts():
    """Texts that are no word of any puzzle."""
    return [" ", "w", "a", "0", "x ", " x", "x\n", "x y", "X\tX", "xw", "wx", "_", "x1", "None", "x,x",
            "10", "10 01", "xxxxxxxxxxxw", "?" * 40, "x" * 11 + " ", "[]", "()", "-", "xX x"]


def no_puzzles():
    return things() + texts() + ["", "x", "xX", "0 0 0", "1234", "10234 12340"]


def no_stands(puzzle):
    """Things that are no stand of the puzzle."""
    here = start_of(puzzle)
    places = len(here)
    found = [thing for thing in things() + texts() + ["", "x"] if not is_in(thing, all_deeds(places))]
    found.extend(deed for many in range(1, 6) if many != places for deed in (all_deeds(many)[0], all_deeds(many)[-1]))
    found.extend([list(here), (here,), puzzle, [puzzle[0]], dict(enumerate(here)), here + (places,), here[:-1]])
    found.extend([here + (0,), here[:-1] + (places,), here[1:] + (-1,), (False,) + here[1:], here[:-1] + (here,)])
    found.extend(["".join(map(str, here)), here[:-1] + (str(places - 1),), here[:-1] + (None,), here[:-1] + ([],)])
    found.extend([here + here, tuple(range(1, places + 1)), tuple(range(6)), here[:-1] + ({},)])
    return found


def no_words(puzzle):
    """Things that are no word of the puzzle."""
    found = things() + texts() + [puzzle, start_of(puzzle), list(letters(puzzle)), tuple(letters(puzzle))]
    for letter in SMALL + GREAT:
        if letter not in letters(puzzle):
            found.extend([letter, "x" + letter, letter + "X", "xxxxxxxxxxx" + letter])
    return found


def no_word_lists(puzzle):
    """Things that are no list of one to three words of the puzzle."""
    found = things() + texts() + ["", "x", "xX", puzzle, start_of(puzzle), [], ("",), ("x",), ("x", "X"), {0: "x"},
                                  {"x": "x"}, {"": ""}, [()], [None], [["x"]], [("x",)], [{}], [True], [False], [0]]
    found = [thing for thing in found if not is_in(thing, [["x", "X"], [""], ["x"]])]
    found.extend([["x"] * many for many in (4, 5, 6, 12)] + [[""] * 4, ["", "x", "X", ""], ["x", "x", "x", None]])
    for word in no_words(puzzle):
        found.extend([[word], ["x", word], [word, ""], ["", "x", word], ["x", word, "X"], [word, "x", "x"]])
    return found


def is_same(one, other):
    """Whether two things are alike, their kinds and those within them, too."""
    if type(one) is not type(other):
        return False
    if isinstance(one, (list, tuple)):
        return len(one) == len(other) and all(map(is_same, one, other))
    if isinstance(one, dict):
        # Plain equality of dicts does not tell a truth from a number.
        return len(one) == len(other) and all(
            any(is_same(key, told) and is_same(one[key], other[told]) for told in other) for key in one)
    return one == other


def is_in(thing, row):
    return any(is_same(thing, other) for other in row)


class Case(unittest.TestCase):
    """A test case that compares kinds, too, and looks at what is handed in."""

    def assert_same(self, told, wanted, message=None):
        if not is_same(told, wanted):
            self.fail(f"{message}: {told!r} is not {wanted!r}")

    def ask(self, function, *handed):
        """What the function tells, where nothing that was handed in is changed by asking."""
        kept = copy.deepcopy(handed)
        try:
            return function(*handed)
        finally:
            self.assert_same(handed, kept, function.__name__)

    def assert_told(self, wanted, function, *handed):
        self.assert_same(self.ask(function, *handed), wanted, f"{function.__name__}{handed}")

    def assert_refused(self, kind, function, *handed):
        """The one error that is raised, which has just the class told."""
        try:
            told = self.ask(function, *handed)
        except errors.DeedError as refusal:
            self.assertIs(type(refusal), kind, f"{function.__name__}{handed}")
            return refusal
        self.fail(f"{function.__name__}{handed} told {told!r}")
