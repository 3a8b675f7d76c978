"""Points 91 to 95: places renamed, deeds put to a puzzle or left out, puzzles beside one another and of words."""

import itertools
import unittest

from shortdeeds.changes import beside, of_words, renamed, with_deed, without
from shortdeeds.errors import NoDeed, NoNumber, NoPuzzle, NoWord, TooMany
from shortdeeds.little import exchange
from shortdeeds.orders import turned_stand
from shortdeeds.places import place_lots
from shortdeeds.puzzles import back_of, deed_of, is_puzzle
from shortdeeds.ways import counts, reached, words
from tests import helper
from tests.helper import FIVE, ONE_PLACE, ONE_PLACE_THRICE, RING, RING_AND_SWAP

STILL = ((0, 1, 2), (0, 1, 2))


def renamed_by(puzzle, names):
    """The document's words: a number t at place p is the tuple's at t, at the tuple's at p."""
    found = []
    for deed in puzzle:
        fresh = {names[place]: names[number] for place, number in enumerate(deed)}
        found.append(tuple(fresh[place] for place in sorted(fresh)))
    return tuple(found)


def beside_by(puzzle, other):
    """Both puzzles' deeds, place by place."""
    places, others = len(puzzle[0]), len(other[0])
    found = []
    for deed in puzzle:
        found.append(tuple(deed[place] if place < places else place for place in range(places + others)))
    for deed in other:
        found.append(tuple(place if place < places else deed[place - places] + places
                           for place in range(places + others)))
    return tuple(found)


def some_deeds(places):
    return helper.some_of(helper.all_deeds(places), 1 if places < 4 else 5)


class Renamed(helper.Case):

    def test_some_puzzles(self):
        for wanted, puzzle, names in (
                (ONE_PLACE, ONE_PLACE, (0,)), (ONE_PLACE_THRICE, ONE_PLACE_THRICE, (0,)),
                (((1, 0),), ((1, 0),), (1, 0)),
                (((0, 1),), ((0, 1),), (1, 0)), (((2, 0, 1),), RING, (1, 0, 2)), (((1, 2, 0),), RING, (1, 2, 0)),
                (((1, 2, 0), (0, 2, 1)), RING_AND_SWAP, (1, 2, 0)), (((1, 2, 0), (2, 1, 0)), RING_AND_SWAP, (2, 0, 1)),
                (((2, 0, 1), (2, 1, 0)), RING_AND_SWAP, (0, 2, 1)), (RING_AND_SWAP, RING_AND_SWAP, (0, 1, 2)),
                (((0, 1, 2, 4, 3), (4, 0, 1, 2, 3)), FIVE, (4, 3, 2, 1, 0))):
            self.assert_told(wanted, renamed, puzzle, names)

    def test_each_place_and_each_number_goes_by_its_name(self):
        for puzzle in helper.few_puzzles() + helper.some_of(helper.sample_puzzles(), 3):
            for names in some_deeds(len(puzzle[0]))[::2]:
                self.assert_told(renamed_by(puzzle, names), renamed, puzzle, names)

    def test_renamed_back_it_is_as_before(self):
        for puzzle in helper.few_puzzles():
            for names in some_deeds(len(puzzle[0])):
                back = tuple(names.index(place) for place in range(len(names)))
                self.assert_told(puzzle, renamed, self.ask(renamed, puzzle, names), back)

    def test_as_many_stands_are_come_to_by_as_many_letters(self):
        for puzzle in helper.few_puzzles():
            for names in some_deeds(len(puzzle[0]))[::4]:
                told = self.ask(renamed, puzzle, names)
                self.assert_told(True, is_puzzle, told)
                self.assertEqual(len(reached(told)), len(reached(puzzle)))
                self.assertEqual(counts(told), counts(puzzle))
                lots = sorted(tuple(sorted(names[place] for place in lot)) for lot in place_lots(puzzle))
                self.assertEqual(place_lots(told), lots)

    def test_renamed_by_the_deed_of_a_word_each_deed_is_turned_by_the_word(self):
        for puzzle in helper.few_puzzles():
            for word in helper.some_of(helper.all_words(puzzle, 3), 5):
                told = self.ask(renamed, puzzle, deed_of(puzzle, word))
                self.assertEqual(told, tuple(turned_stand(puzzle, deed, word) for deed in puzzle))

    def test_what_is_no_deed_of_its_places(self):
        for puzzle in (ONE_PLACE, RING, RING_AND_SWAP, FIVE, ((1, 0),) * 3):
            for thing in helper.no_stands(puzzle):
                self.assert_refused(NoDeed, renamed, puzzle, thing)
                self.assert_refused(NoDeed, with_deed, puzzle, thing)
                self.assert_refused(NoPuzzle, renamed, [puzzle], thing)
                self.assert_refused(NoPuzzle, with_deed, [puzzle], thing)


class WithAndWithout(helper.Case):

    def test_some_deeds(self):
        for wanted, puzzle, deed in (
                (((0,), (0,)), ONE_PLACE, (0,)), (((1, 0), (0, 1)), ((1, 0),), (0, 1)),
                (RING_AND_SWAP, RING, (1, 0, 2)),
                (RING + RING, RING, RING[0]), (RING_AND_SWAP + RING, RING_AND_SWAP, (1, 2, 0)),
                (((0, 1), (0, 1), (1, 0)), ((0, 1), (0, 1)), (1, 0))):
            self.assert_told(wanted, with_deed, puzzle, deed)

    def test_each_deed_behind_the_others(self):
        for puzzle in helper.few_puzzles():
            for deed in some_deeds(len(puzzle[0])):
                if len(puzzle) < 3:
                    told = self.ask(with_deed, puzzle, deed)
                    self.assert_same(told, (*puzzle, deed))
                    self.assert_told(puzzle, without, told, len(puzzle))
                else:
                    self.assert_refused(TooMany, with_deed, puzzle, deed)

    def test_three_deeds_are_too_many_behind_what_is_no_deed(self):
        for puzzle in (ONE_PLACE_THRICE, ((1, 0),) * 3, RING_AND_SWAP + RING):
            self.assert_refused(TooMany, with_deed, puzzle, puzzle[0])
            for thing in ((0, 1, 2, 3), (True, False), (False,), None, puzzle, "", 0, [0], (), (1,), (0, 1, True)):
                self.assert_refused(NoDeed, with_deed, puzzle, thing)

    def test_with_a_deed_of_its_own_words_no_more_stands_are_come_to(self):
        for puzzle in helper.few_puzzles():
            if len(puzzle) < 3:
                for deed in reached(puzzle)[::9]:
                    self.assertEqual(reached(self.ask(with_deed, puzzle, deed)), reached(puzzle))

    def test_some_left_out(self):
        for wanted, puzzle, number in (
                (RING, RING_AND_SWAP, 1), (((1, 0, 2),), RING_AND_SWAP, 0), (((0,), (0,)), ONE_PLACE_THRICE, 2),
                (((0, 1), (1, 0)), ((1, 0), (0, 1), (1, 0)), 0), (((1, 0), (1, 0)), ((1, 0), (0, 1), (1, 0)), 1),
                (((1, 0), (0, 1)), ((1, 0), (0, 1), (1, 0)), 2)):
            self.assert_told(wanted, without, puzzle, number)

    def test_each_left_out(self):
        for puzzle in helper.few_puzzles():
            for number in range(len(puzzle)):
                if len(puzzle) > 1:
                    kept = tuple(deed for at, deed in enumerate(puzzle) if at != number)
                    self.assert_told(kept, without, puzzle, number)

    def test_one_deed_alone(self):
        for puzzle in (ONE_PLACE, RING, ((0, 1),), ((1, 2, 3, 4, 0),)):
            for number in (0, 1, 2, -1, 10 ** 29, None, False, "0"):
                self.assert_refused(NoNumber, without, puzzle, number)

    def test_what_is_no_deeds_number(self):
        for puzzle in (RING_AND_SWAP, STILL, FIVE, ONE_PLACE_THRICE):
            for thing in helper.no_numbers(len(puzzle) - 1):
                self.assert_refused(NoNumber, without, puzzle, thing)
                self.assert_refused(NoPuzzle, without, [puzzle], thing)


class Beside(helper.Case):

    def test_some_puzzles(self):
        for wanted, puzzle, other in (
                (((0, 1), (0, 1)), ONE_PLACE, ONE_PLACE), (((1, 2, 0, 3), (0, 1, 2, 3)), RING, ONE_PLACE),
                (((0, 1, 2, 3), (0, 2, 3, 1)), ONE_PLACE, RING), (((1, 2, 0, 3, 4), (0, 1, 2, 4, 3)), RING, ((1, 0),)),
                (((1, 0, 2, 3, 4), (0, 1, 3, 4, 2)), ((1, 0),), RING),
                (((1, 0, 2, 3, 4), (0, 1, 3, 4, 2), (0, 1, 3, 2, 4)), ((1, 0),), RING_AND_SWAP),
                (((1, 2, 0, 3, 4), (1, 0, 2, 3, 4), (0, 1, 2, 4, 3)), RING_AND_SWAP, ((1, 0),)),
                (((0, 1),) * 3, ((0,), (0,)), ONE_PLACE), (((0, 1),) * 3, ONE_PLACE, ((0,), (0,)))):
            self.assert_told(wanted, beside, puzzle, other)

    def test_all_that_fit_and_all_that_are_too_many(self):
        met = [0, 0]
        rows = helper.few_puzzles() + [ONE_PLACE_THRICE, STILL, RING, ((1, 0),), ((0, 1, 3, 2),)]
        for puzzle, other in itertools.product(rows, repeat=2):
            fit = len(puzzle[0]) + len(other[0]) <= 5 and len(puzzle) + len(other) <= 3
            met[fit] += 1
            if fit:
                self.assert_told(beside_by(puzzle, other), beside, puzzle, other)
                self.assert_told(True, is_puzzle, beside(puzzle, other))
            else:
                self.assert_refused(TooMany, beside, puzzle, other)
        self.assertGreater(min(met), 30)

    def test_together_five_and_six_places_three_and_four_deeds(self):
        for places, deeds in itertools.product(range(1, 6), range(1, 4)):
            for others, more in itertools.product(range(1, 6), range(1, 4)):
                puzzle = (tuple(range(places)),) * deeds
                other = (tuple(range(others)),) * more
                if places + others > 5 or deeds + more > 3:
                    self.assert_refused(TooMany, beside, puzzle, other)
                else:
                    self.assert_told((tuple(range(places + others)),) * (deeds + more), beside, puzzle, other)

    def test_as_many_stands_as_both_multiplied(self):
        rows = helper.few_puzzles() + [RING, ((1, 0),), ((1, 2, 3, 0),)]
        for puzzle, other in itertools.product(rows, repeat=2):
            if len(puzzle[0]) + len(other[0]) <= 5 and len(puzzle) + len(other) <= 3:
                told = self.ask(beside, puzzle, other)
                self.assertEqual(len(reached(told)), len(reached(puzzle)) * len(reached(other)))
                shifted = [tuple(place + len(puzzle[0]) for place in lot) for lot in place_lots(other)]
                self.assertEqual(place_lots(told), place_lots(puzzle) + shifted)

    def test_each_of_both_may_be_none(self):
        for puzzle in (ONE_PLACE, FIVE, ((1, 0),) * 3):
            for thing in helper.no_puzzles():
                self.assert_refused(NoPuzzle, beside, puzzle, thing)
                self.assert_refused(NoPuzzle, beside, thing, puzzle)
                self.assert_refused(NoPuzzle, beside, thing, thing)


class OfWords(helper.Case):

    def test_some_lists(self):
        for wanted, puzzle, some in (
                (ONE_PLACE, ONE_PLACE, [""]), (ONE_PLACE_THRICE, ONE_PLACE, ["x", "", "XX"]), (RING, RING, ["x"]),
                (((2, 0, 1), (0, 1, 2)), RING, ["X", ""]), (((0, 1, 2),) * 3, RING, ["", "xX", "xxx"]),
                (RING_AND_SWAP, RING_AND_SWAP, ["x", "y"]), (((1, 0, 2), (1, 2, 0)), RING_AND_SWAP, ["y", "x"]),
                (((2, 1, 0), (0, 2, 1)), RING_AND_SWAP, ["xy", "yx"]), (((1, 0, 2),) * 2, RING_AND_SWAP, ["y", "Y"])):
            self.assert_told(wanted, of_words, puzzle, some)

    def test_lists_of_one_two_and_three_words(self):
        for puzzle in helper.few_puzzles():
            some = helper.some_of(helper.all_words(puzzle, 3), 7) + ["xXxxXXXxXxXX"]
            for first, other, last in zip(some, some[3:] + some[:3], some[::-1]):
                deeds = tuple(helper.walk(puzzle, helper.start_of(puzzle), word) for word in (first, other, last))
                self.assert_told(deeds[:1], of_words, puzzle, [first])
                self.assert_told(deeds[:2], of_words, puzzle, [first, other])
                self.assert_told(deeds, of_words, puzzle, [first, other, last])
                self.assert_refused(NoWord, of_words, puzzle, [first, other, last, first])
            self.assert_refused(NoWord, of_words, puzzle, [])

    def test_its_own_letters_make_the_puzzle_and_their_backs_as_many_stands(self):
        for puzzle in helper.few_puzzles():
            some = list("xyz"[:len(puzzle)])
            self.assert_told(puzzle, of_words, puzzle, some)
            backs = self.ask(of_words, puzzle, [back_of(puzzle, word) for word in some])
            self.assertEqual(reached(backs), reached(puzzle))

    def test_only_such_stands_as_were_come_to(self):
        for puzzle in helper.few_puzzles():
            found = set(words(puzzle))
            for first in helper.some_of(helper.all_words(puzzle, 2), 3):
                told = self.ask(of_words, puzzle, [first, "xx"])
                self.assertLessEqual(set(reached(told)), found)

    def test_words_that_were_told_whatever_their_size(self):
        told = exchange(FIVE, "xyxyxy", "yyxyyx")
        self.assert_told((deed_of(FIVE, told), (0, 1, 2, 3, 4)), of_words, FIVE, [told, told + back_of(FIVE, told)])

    def test_what_is_no_list_of_words(self):
        for puzzle in (ONE_PLACE, RING, RING_AND_SWAP, FIVE, ((1, 0),) * 3):
            for thing in helper.no_word_lists(puzzle):
                self.assert_refused(NoWord, of_words, puzzle, thing)
                self.assert_refused(NoPuzzle, of_words, [puzzle], thing)

    def test_a_list_changed_later_changes_nothing(self):
        some = ["x", "y"]
        told = self.ask(of_words, RING_AND_SWAP, some)
        some[0] = "w"
        some.append("x")
        self.assertEqual(told, RING_AND_SWAP)
        self.assert_refused(NoWord, of_words, RING_AND_SWAP, some)


if __name__ == "__main__":
    unittest.main()
