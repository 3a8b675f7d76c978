"""Points 81 to 85: lots of places, partings that hold, and the keepers of a place."""

import itertools
import unittest

from shortdeeds.errors import NoNumber, NoPuzzle
from shortdeeds.places import held_partings, is_held_parting, joining, keepers, place_lots
from shortdeeds.puzzles import deed_of
from shortdeeds.ways import reached
from tests import helper
from tests.helper import FIVE, ONE_PLACE, ONE_PLACE_THRICE, RING, RING_AND_SWAP

STILL = ((0, 1, 2), (0, 1, 2))
SIX_STANDS = ((1, 2, 0, 4, 3),)
SQUARE = ((1, 2, 3, 0), (1, 0, 3, 2))
SWAPS = ((1, 0, 3, 2), (2, 3, 0, 1))
APART = ((1, 0, 2, 3, 4), (0, 1, 3, 2, 4))
# Places 0 and 1 go with 2 and 3, and never without them.
ALIKE = ((1, 0, 3, 2, 4),)


def some_puzzles():
    return helper.few_puzzles() + [STILL, SIX_STANDS, SQUARE, SWAPS, APART, ALIKE]


def partings_of(places):
    """All ways to part so many places: each place is told by a sign with which ones it is."""
    found = set()
    for signs in itertools.product(range(places), repeat=places):
        lots = {}
        for place, told in enumerate(signs):
            lots.setdefault(told, []).append(place)
        found.add(tuple(sorted(map(tuple, lots.values()))))
    return sorted(found)


PARTINGS = {places: partings_of(places) for places in range(1, 6)}


def does_hold(parting, puzzle):
    """The document's words: the numbers that each deed has at a tuple's places are those of one tuple."""
    lots = [set(row) for row in parting]
    return all({deed[place] for place in row} in lots for deed in puzzle for row in parting)


def lots_by(puzzle):
    """The lots of places, put together by each deed's numbers."""
    lots = [{place} for place in puzzle[0]]
    for deed in puzzle:
        for place, number in enumerate(deed):
            one = [lot for lot in lots if place in lot or number in lot]
            lots = [lot for lot in lots if lot not in one] + [set().union(*one)]
    return sorted(tuple(sorted(lot)) for lot in lots)


def joined_by(puzzle, one, other):
    """The parting that comes of two places put together, and of all that has to be together then."""
    lots = {place: {place} for place in puzzle[0]}
    waiting = [(one, other)]
    while waiting:
        first, second = waiting.pop()
        if lots[first] is not lots[second]:
            lots[first] |= lots[second]
            for place in lots[second]:
                lots[place] = lots[first]
            for deed in puzzle:
                for here, there in itertools.combinations(sorted(lots[first]), 2):
                    waiting.append((deed[here], deed[there]))
    return tuple(sorted({tuple(sorted(lot)) for lot in lots.values()}))


def no_partings(puzzle):
    """Things that are no parting of the puzzle's places, whether or not it would hold."""
    start = helper.start_of(puzzle)
    whole, singles = (start,), tuple((place,) for place in start)
    found = helper.things() + helper.texts() + ["", "x", "0", start, list(start), puzzle[0]]
    found.extend([list(whole), [list(start)], ([*start],), list(singles), [[place] for place in start], (singles,),
                  (whole,), tuple([place] for place in start), dict(enumerate(singles)), {whole: singles}, {start: 0}])
    found.extend([((),), ((),) + whole, whole + ((),), singles + ((),), ((),) + singles, whole + whole,
                  whole + singles, singles + whole, singles + singles[-1:], singles[:1] + singles, singles[1:],
                  singles[:-1], (start[1:],), (start[:-1],), (start + (len(start),),), ((-1,) + start,),
                  singles + ((len(start),),), ((-1,),) + singles, singles[:-1] + (None,), singles[:-1] + ("0",),
                  singles[:-1] + ("",), singles[:-1] + (len(start) - 1,), singles[:-1] + ((10 ** 29,),),
                  (str(start),), ("".join(map(str, start)),), tuple((str(place),) for place in start)])
    found.extend([((False,) + start[1:],), ((False,),) + singles[1:], (start[:-1] + (None,),), ((start,),)])
    found.extend([({place: 0 for place in start},), ({start: 0},), tuple({place: place} for place in start)])
    if len(start) > 1:
        found.extend([(start[::-1],), singles[::-1], ((0, True) + start[2:],), ((0,), (True,)) + singles[2:],
                      singles[1:] + singles[:1], ((1, 0),) + singles[2:], (start + start[:1],), ((0, 0),) + singles[1:],
                      (start[1:] + start[:1],), (start[1:], start[:1]), (start, start[1:]),
                      ((0, 1), (1,)) + singles[2:]])
    return [thing for thing in found if not helper.is_in(thing, PARTINGS[len(start)])]


class Lots(helper.Case):

    def test_some_lots(self):
        for wanted, puzzle in (
                ([(0,)], ONE_PLACE), ([(0,)], ONE_PLACE_THRICE), ([(0, 1)], ((1, 0),)), ([(0,), (1,)], ((0, 1),)),
                ([(0,), (1,), (2,)], STILL), ([(0, 1, 2)], RING), ([(0, 1, 2), (3, 4)], SIX_STANDS),
                ([(0, 1), (2, 3), (4,)], APART), ([(0, 1), (2, 3), (4,)], ALIKE), ([(0, 1, 2, 3)], SWAPS),
                ([(0, 1, 2, 3, 4)], FIVE), ([(0, 4), (1,), (2, 3)], ((4, 1, 3, 2, 0),)),
                ([(0, 2, 4), (1, 3)], ((2, 1, 0, 3, 4), (0, 3, 4, 1, 2))), ([(0,), (1, 2)], ((0, 2, 1),)),
                ([(0, 3), (1, 2)], ((3, 2, 1, 0),)), ([(0, 1, 2, 3, 4)], ((1, 0, 3, 2, 4), (0, 2, 1, 4, 3)))):
            self.assert_told(wanted, place_lots, puzzle)

    def test_what_each_deed_puts_together(self):
        for puzzle in helper.sample_puzzles():
            self.assert_told(lots_by(puzzle), place_lots, puzzle)

    def test_where_some_words_deed_has_the_one_at_the_other(self):
        for puzzle in some_puzzles():
            led = {(place, told) for stand in set().union(*helper.levels(puzzle)) for place, told in enumerate(stand)}
            for lot in self.ask(place_lots, puzzle):
                for place in lot:
                    self.assertEqual({other for other in puzzle[0] if (place, other) in led}, set(lot))

    def test_the_lots_are_a_parting_that_holds_and_have_all_places(self):
        for puzzle in some_puzzles():
            told = self.ask(place_lots, puzzle)
            self.assert_told(True, is_held_parting, tuple(told), puzzle)
            self.assertEqual(sorted(place for lot in told for place in lot), sorted(puzzle[0]))


class Partings(helper.Case):

    def test_some_that_hold(self):
        for wanted, puzzle in (
                ([((0,),)], ONE_PLACE), ([((0,),)], ONE_PLACE_THRICE), ([((0,), (1,)), ((0, 1),)], ((1, 0),)),
                ([((0,), (1,)), ((0, 1),)], ((0, 1),)), ([((0,), (1,), (2,)), ((0, 1, 2),)], RING),
                ([((0,), (1,), (2,)), ((0, 1, 2),)], RING_AND_SWAP), (PARTINGS[3], STILL),
                ([((0,), (1,), (2,)), ((0,), (1, 2)), ((0, 1, 2),)], ((0, 2, 1),)),
                ([((0,), (1,), (2,), (3,)), ((0, 1, 2, 3),), ((0, 2), (1, 3))], SQUARE),
                ([((0,), (1,), (2,), (3,)), ((0, 1), (2, 3)), ((0, 1, 2, 3),), ((0, 2), (1, 3)), ((0, 3), (1, 2))],
                 SWAPS),
                ([((0,), (1,), (2,), (3,), (4,)), ((0, 1, 2, 3, 4),)], FIVE)):
            self.assert_told(wanted, held_partings, puzzle)

    def test_all_that_hold(self):
        for puzzle in helper.sample_puzzles() + some_puzzles():
            wanted = [parting for parting in PARTINGS[len(puzzle[0])] if does_hold(parting, puzzle)]
            self.assert_told(wanted, held_partings, puzzle)

    def test_a_rising_list_with_the_two_that_always_hold(self):
        for puzzle in some_puzzles():
            told = self.ask(held_partings, puzzle)
            self.assertTrue(all(one < other for one, other in itertools.pairwise(told)))
            self.assertIn((helper.start_of(puzzle),), told)
            self.assertIn(tuple((place,) for place in helper.start_of(puzzle)), told)

    def test_of_each_parting_whether_it_holds(self):
        met = [0, 0]
        for puzzle in helper.sample_puzzles()[::2] + some_puzzles():
            for parting in PARTINGS[len(puzzle[0])]:
                met[does_hold(parting, puzzle)] += 1
                self.assert_told(does_hold(parting, puzzle), is_held_parting, parting, puzzle)
        self.assertGreater(min(met), 100)

    def test_how_many_there_are(self):
        self.assertEqual([len(PARTINGS[places]) for places in range(1, 6)], [1, 2, 5, 15, 52])
        for places in range(1, 6):
            self.assert_told(PARTINGS[places], held_partings, (helper.start_of(FIVE)[:places],))

    def test_one_place(self):
        self.assert_told(True, is_held_parting, ((0,),), ONE_PLACE)
        for thing in ((), ((),), (0,), 0, [(0,)], ([0],), ((False,),), ((1,),), ((0,), (0,)), ((0,), ()), (((0,),),),
                      ((0, 0),), ((0, 1),), ((0,), (1,)), "0", ("0",), {0: 0}, None, False, ((None,),), (None,)):
            self.assert_told(False, is_held_parting, thing, ONE_PLACE)

    def test_what_is_none(self):
        for puzzle in some_puzzles() + [ONE_PLACE, RING]:
            for thing in no_partings(puzzle):
                self.assert_told(False, is_held_parting, thing, puzzle)

    def test_rows_that_are_not_rising_or_not_in_order(self):
        self.assert_told(True, is_held_parting, ((0, 2), (1, 3)), SQUARE)
        for thing in (((1, 3), (0, 2)), ((2, 0), (1, 3)), ((0, 2), (3, 1)), ((0, 2), (1,)), ((0, 2), (1, 3), ()),
                      ((0, 2), (1, 3), (4,)), ((0, 2), (1, 2, 3)), ((0, 2, 2), (1, 3)), ((0, 2), [1, 3]),
                      [(0, 2), (1, 3)], ((0, 2), (True, 3)), ((False, 2), (1, 3)), ((0, 1), (2, 3)),
                      ((0, 2), (1, 3, 4)),
                      ((0, 2), (0, 2), (1, 3)), ((0, 2), None), ((0, 2), "13"), ("02", "13"), ((0, 2), 1, 3)):
            self.assert_told(False, is_held_parting, thing, SQUARE)
        self.assert_told(True, is_held_parting, ((0, 2), (1, 3)), SQUARE)

    def test_truths_in_a_numbers_place(self):
        for puzzle in some_puzzles():
            for parting in self.ask(held_partings, puzzle):
                for number in (0, 1):
                    if number in puzzle[0]:
                        false = tuple(tuple(bool(one) if one == number else one for one in row) for row in parting)
                        self.assert_told(False, is_held_parting, false, puzzle)
                        self.assert_told(True, is_held_parting, parting, puzzle)

    def test_just_one_deed_or_one_tuple_that_does_not_hold(self):
        self.assert_told(True, is_held_parting, ((0, 1), (2, 3)), (SWAPS[0], SWAPS[1], (0, 1, 2, 3)))
        for at in range(3):
            puzzle = SWAPS[:at] + ((1, 2, 3, 0),) + SWAPS[at:]
            self.assert_told(False, is_held_parting, ((0, 1), (2, 3)), puzzle)
        self.assert_told(False, is_held_parting, ((0, 1), (2,), (3, 4)), ((1, 0, 2, 4, 3), (1, 0, 3, 4, 2)))
        self.assert_told(True, is_held_parting, ((0, 1), (2,), (3, 4)), ((1, 0, 2, 4, 3), (3, 4, 2, 0, 1)))
        # A tuple has only a part of another one's places as its numbers.
        self.assert_told(False, is_held_parting, ((0,), (1, 2)), ((1, 0, 2),))
        self.assert_told(False, is_held_parting, ((0, 1, 2), (3, 4)), ((3, 4, 0, 1, 2),))

    def test_a_parting_that_holds_does_so_by_each_words_deed(self):
        for puzzle in some_puzzles():
            for parting in self.ask(held_partings, puzzle):
                for word in helper.some_of(helper.all_words(puzzle, 3), 4):
                    self.assert_told(True, is_held_parting, parting, (deed_of(puzzle, word),))

    def test_what_is_told_is_the_askers_own(self):
        for puzzle in some_puzzles():
            for function in (held_partings, place_lots):
                told = self.ask(function, puzzle)
                kept = list(told)
                told.append("changed")
                told.reverse()
                self.assert_told(kept, function, puzzle)


class Joinings(helper.Case):

    def test_some_places(self):
        singles = ((0,), (1,), (2,), (3,))
        for wanted, puzzle, one, other in (
                (((0,),), ONE_PLACE, 0, 0), (((0, 1),), ((1, 0),), 0, 1), (((0,), (1,)), ((1, 0),), 1, 1),
                (((0, 1),), ((0, 1),), 1, 0), (((0,), (1, 2)), STILL, 2, 1), (((0, 1, 2),), RING, 0, 1),
                (((0,), (1,), (2,)), RING, 2, 2), (singles, SQUARE, 3, 3), (((0, 2), (1, 3)), SQUARE, 0, 2),
                (((0, 2), (1, 3)), SQUARE, 3, 1), (((0, 1, 2, 3),), SQUARE, 0, 1), (((0, 1), (2, 3)), SWAPS, 0, 1),
                (((0, 1), (2, 3)), SWAPS, 2, 3), (((0, 3), (1, 2)), SWAPS, 1, 2),
                (((0, 1), (2,), (3,), (4,)), APART, 0, 1),
                (((0, 1, 2, 3), (4,)), APART, 0, 2), (((0, 2), (1, 3), (4,)), ALIKE, 0, 2),
                (((0, 3), (1, 2), (4,)), ALIKE, 3, 0), (((0, 1), (2,), (3,), (4,)), ALIKE, 1, 0),
                (((0, 1, 4), (2,), (3,)), ALIKE, 0, 4),
                (((0, 1, 2, 3, 4),), SIX_STANDS, 0, 3), (((0, 1, 2), (3,), (4,)), SIX_STANDS, 0, 2),
                (((0,), (1,), (2,), (3, 4)), SIX_STANDS, 4, 3), (((0, 1, 2, 3, 4),), FIVE, 2, 4)):
            self.assert_told(wanted, joining, puzzle, one, other)

    def test_what_has_to_be_together_with_both(self):
        for puzzle in helper.sample_puzzles()[::3] + some_puzzles():
            for one, other in itertools.product(helper.start_of(puzzle), repeat=2):
                self.assert_told(joined_by(puzzle, one, other), joining, puzzle, one, other)

    def test_the_one_with_the_most_tuples_of_those_that_hold(self):
        for puzzle in some_puzzles():
            for one, other in itertools.product(helper.start_of(puzzle), repeat=2):
                told = self.ask(joining, puzzle, one, other)
                fit = [parting for parting in PARTINGS[len(puzzle[0])] if does_hold(parting, puzzle)
                       and any({one, other} <= set(row) for row in parting)]
                most = max(map(len, fit))
                self.assertEqual([parting for parting in fit if len(parting) == most], [told])
                self.assert_told(told, joining, puzzle, other, one)

    def test_one_place_twice(self):
        for puzzle in some_puzzles():
            for place in helper.start_of(puzzle):
                self.assert_told(tuple((one,) for one in helper.start_of(puzzle)), joining, puzzle, place, place)

    def test_each_of_both_places_may_be_none(self):
        for puzzle in (ONE_PLACE, RING, FIVE):
            places = len(puzzle[0])
            for thing in (-1, places, places + 1, 10 ** 29, -(10 ** 29), True, False, None, "0", "", [0], (0,), {0: 0}):
                self.assert_refused(NoNumber, joining, puzzle, thing, 0)
                self.assert_refused(NoNumber, joining, puzzle, 0, thing)
                self.assert_refused(NoNumber, joining, puzzle, places - 1, thing)
                self.assert_refused(NoNumber, joining, puzzle, thing, thing)
                self.assert_refused(NoNumber, keepers, puzzle, thing)
                self.assert_refused(NoPuzzle, joining, [puzzle], thing, thing)


class Keepers(helper.Case):

    def test_some_places(self):
        for wanted, puzzle, place in (
                ([(0,)], ONE_PLACE, 0), ([(0, 1)], ((1, 0),), 1), ([(0, 1)], ((0, 1),), 0), ([(0, 1, 2)], STILL, 2),
                ([(0, 1, 2)], RING, 1), ([(0, 1, 2), (0, 2, 1)], RING_AND_SWAP, 0),
                ([(0, 1, 2), (2, 1, 0)], RING_AND_SWAP, 1), ([(0, 1, 2), (1, 0, 2)], RING_AND_SWAP, 2),
                ([(0, 1, 2, 3, 4), (0, 1, 2, 4, 3)], SIX_STANDS, 0),
                ([(0, 1, 2, 3, 4), (1, 2, 0, 3, 4), (2, 0, 1, 3, 4)], SIX_STANDS, 4),
                ([(0, 1, 2, 3), (0, 3, 2, 1)], SQUARE, 2), ([(0, 1, 2, 3)], SWAPS, 3)):
            self.assert_told(wanted, keepers, puzzle, place)

    def test_the_stands_come_to_that_have_the_places_own_piece_there(self):
        for puzzle in helper.sample_puzzles()[::2] + some_puzzles():
            found = sorted(set().union(*helper.levels(puzzle)))
            for place in helper.start_of(puzzle):
                self.assert_told([stand for stand in found if stand[place] == place], keepers, puzzle, place)

    def test_as_many_as_all_stands_divided_by_how_many_places_are_led_to_it(self):
        for puzzle in some_puzzles():
            for lot in place_lots(puzzle):
                for place in lot:
                    self.assertEqual(len(self.ask(keepers, puzzle, place)) * len(lot), len(reached(puzzle)))

    def test_what_is_told_is_the_askers_own(self):
        for puzzle in (ONE_PLACE, RING_AND_SWAP, FIVE):
            told = self.ask(keepers, puzzle, 0)
            kept = list(told)
            told.append("changed")
            told.reverse()
            self.assert_told(kept, keepers, puzzle, 0)


if __name__ == "__main__":
    unittest.main()
