"""Points 31 to 34: bounds by heights, by counting, by signs and by moved places."""

import itertools
import unittest

from shortdeeds.bounds import (count_bound, height_paper, is_barred, is_height_paper, moved_bound, plain_many, sign,
                               signs)
from shortdeeds.errors import NoNumber
from shortdeeds.puzzles import back_of, behind, deed_of
from shortdeeds.ways import counts, far, reached
from tests import helper
from tests.helper import FIVE, ONE_PLACE, ONE_PLACE_THRICE, RING, RING_AND_SWAP

FOUR_RING = ((1, 2, 3, 0),)
FIVE_RING = ((1, 2, 3, 4, 0),)
SWAP_OF_FIVE = ((1, 0, 2, 3, 4),)
SIX_STANDS = ((1, 2, 0, 4, 3),)
STILL = ((0, 1, 2), (0, 1, 2))
PLAIN = {
    1: [1, 2, 2, 2, 2, 2, 2, 2, 2, 2],
    2: [1, 4, 12, 36, 108, 324, 972, 2916, 8748, 26244],
    3: [1, 6, 30, 150, 750, 3750, 18750, 93750, 468750, 2343750],
}


def heights_of(puzzle):
    return {stand: far_off for far_off, level in enumerate(helper.levels(puzzle)) for stand in level}


def is_paper(thing, puzzle):
    """The document's words for a dict that has stands that are come to as keys, and nothing else."""
    if set(thing) != set(heights_of(puzzle)) or thing[helper.start_of(puzzle)] != 0:
        return False
    return all(height >= 0 and abs(thing[helper.move(puzzle, stand, letter)] - height) <= 1
               for stand, height in thing.items() for letter in helper.letters(puzzle))


class HeightPapers(helper.Case):

    def test_one_place(self):
        for puzzle in (ONE_PLACE, ((0,), (0,)), ONE_PLACE_THRICE):
            self.assert_told({(0,): 0}, height_paper, puzzle)
            self.assert_told(True, is_height_paper, {(0,): 0}, puzzle)
            for thing in ({}, {(0,): 1}, {(0,): -1}, {(0,): False}, {(0,): None}, {(0,): "0"}, {(False,): 0},
                          {(0,): 0, (1,): 0}, {(1,): 0}, {0: 0}, {"": 0}, {((0,),): 0}, {(): 0}):
                self.assert_told(False, is_height_paper, thing, puzzle)

    def test_one_ring(self):
        for first in range(-2, 4):
            for other in range(-2, 4):
                for third in range(-2, 4):
                    thing = {(0, 1, 2): first, (1, 2, 0): other, (2, 0, 1): third}
                    wanted = first == 0 and other in (0, 1) and third in (0, 1)
                    self.assert_told(wanted, is_height_paper, thing, RING)

    def test_all_papers_of_four_stands(self):
        stands = [(0, 1, 2, 3), (1, 2, 3, 0), (2, 3, 0, 1), (3, 0, 1, 2)]
        for heights in itertools.product(range(-1, 4), repeat=4):
            thing = dict(zip(stands, heights))
            told = self.ask(is_height_paper, thing, FOUR_RING)
            self.assert_same(told, is_paper(thing, FOUR_RING), thing)
            if told:
                for stand in stands:
                    self.assertLessEqual(thing[stand], height_paper(FOUR_RING)[stand])

    def test_the_one_with_the_greatest_numbers(self):
        self.assert_told({(0, 1, 2): 0, (1, 2, 0): 1, (2, 0, 1): 1}, height_paper, RING)
        self.assert_told({(0, 1, 2): 0}, height_paper, STILL)
        for puzzle in helper.sample_puzzles():
            wanted = heights_of(puzzle)
            self.assert_told(wanted, height_paper, puzzle)
            self.assert_told(True, is_height_paper, wanted, puzzle)

    def test_no_greater_number_stands_on_any_paper(self):
        for puzzle in helper.few_puzzles():
            for stand in helper.some_of(heights_of(puzzle), 5):
                thing = self.ask(height_paper, puzzle)
                thing[stand] += 1
                self.assert_told(False, is_height_paper, thing, puzzle)

    def test_lesser_papers(self):
        for puzzle in helper.few_puzzles():
            heights = heights_of(puzzle)
            for change in (lambda k: 0, lambda k: min(k, 1), lambda k: min(k, 2), lambda k: k // 2, lambda k: k % 2,
                           lambda k: max(0, k - 1), lambda k: max(0, k - 2), lambda k: abs(k - 3) if k > 1 else k):
                thing = {stand: change(height) for stand, height in sorted(heights.items())}
                self.assert_told(is_paper(thing, puzzle), is_height_paper, thing, puzzle)
                self.assertTrue(is_paper(thing, puzzle))

    def test_one_number_changed(self):
        for puzzle in helper.few_puzzles():
            heights = heights_of(puzzle)
            for stand in helper.some_of(sorted(heights), 7):
                for change in (-2, -1, 1, 2, 10 ** 29):
                    thing = {**heights, stand: heights[stand] + change}
                    self.assert_told(is_paper(thing, puzzle), is_height_paper, thing, puzzle)

    def test_a_number_changes_too_much_by_just_one_letter(self):
        puzzle = ((1, 0, 2, 3), (0, 1, 3, 2))
        for letters in ("xy", "yx"):
            then = helper.walk(puzzle, (0, 1, 2, 3), letters[0])
            thing = {(0, 1, 2, 3): 0, then: 1, helper.walk(puzzle, then, letters[1]): 2,
                     helper.walk(puzzle, (0, 1, 2, 3), letters[1]): 0}
            self.assert_told(False, is_height_paper, thing, puzzle)
            thing[helper.walk(puzzle, (0, 1, 2, 3), letters[1])] = 1
            self.assert_told(True, is_height_paper, thing, puzzle)

    def test_home_has_nought_and_no_number_is_below_it(self):
        for puzzle in helper.few_puzzles():
            stands = sorted(heights_of(puzzle))
            self.assert_told(False, is_height_paper, {stand: 1 for stand in stands}, puzzle)
            self.assert_told(False, is_height_paper, {stand: -1 for stand in stands}, puzzle)
            below = {stand: -min(height, 1) for stand, height in heights_of(puzzle).items()}
            self.assert_told(len(stands) == 1, is_height_paper, below, puzzle)

    def test_keys_that_are_too_many_too_few_or_others(self):
        for puzzle in helper.few_puzzles():
            places = len(puzzle[0])
            heights = heights_of(puzzle)
            for key in (None, True, 0, "", "x", (), (0, 1, 2, 3, 4, 5), tuple(range(1, places + 1)), ((),), puzzle,
                        (None,) * places, 10 ** 29, ("0",) * places):
                self.assert_told(False, is_height_paper, {**heights, key: 0}, puzzle)
                for stand in helper.some_of(heights, 50):
                    less = {other: height for other, height in heights.items() if other != stand}
                    self.assert_told(False, is_height_paper, less, puzzle)
                    self.assert_told(False, is_height_paper, {**less, key: heights[stand]}, puzzle)
            for stand in helper.some_of(helper.all_deeds(places), 7):
                if stand not in heights:
                    self.assert_told(False, is_height_paper, {**heights, stand: 0}, puzzle)
                    self.assert_told(False, is_height_paper, {**heights, stand: 1}, puzzle)
                    for gone in helper.some_of(heights, 5):
                        instead = {stand if told == gone else told: height for told, height in heights.items()}
                        self.assert_told(False, is_height_paper, instead, puzzle)

    def test_truths_in_a_key(self):
        for puzzle in helper.few_puzzles():
            heights = heights_of(puzzle)
            for stand in helper.some_of(heights, 9):
                for number in (0, 1):
                    if number in stand:
                        false = tuple(bool(told) if told == number else told for told in stand)
                        thing = {false if told == stand else told: height for told, height in heights.items()}
                        self.assertEqual(thing, heights)
                        self.assert_told(False, is_height_paper, thing, puzzle)

    def test_values_that_are_no_whole_numbers(self):
        for puzzle in helper.few_puzzles():
            heights = heights_of(puzzle)
            for stand in helper.some_of(sorted(heights), 19):
                for height in (True, False, None, "", "0", "x", (), (0,), [], [0], {}, {0: 0}):
                    self.assert_told(False, is_height_paper, {**heights, stand: height}, puzzle)
        for height in (True, False):
            self.assert_told(False, is_height_paper, {(0, 1): 0, (1, 0): height}, ((1, 0),))

    def test_whatever_else(self):
        for puzzle in helper.few_puzzles():
            for thing in helper.things() + helper.texts() + ["", "x", puzzle]:
                wanted = helper.is_same(thing, {(0,): 0}) and len(puzzle[0]) == 1
                self.assert_told(wanted, is_height_paper, thing, puzzle)
            heights = height_paper(puzzle)
            for thing in (list(heights), list(heights.items()), tuple(heights.items()), [heights], (heights,),
                          {0: heights}, list(heights.values())):
                self.assert_told(False, is_height_paper, thing, puzzle)

    def test_no_stand_is_nearer_than_its_number(self):
        for puzzle in helper.few_puzzles():
            for stand in helper.some_of(sorted(self.ask(height_paper, puzzle)), 7):
                self.assert_told(height_paper(puzzle)[stand], far, puzzle, stand)

    def test_what_is_told_or_handed_in_may_be_changed(self):
        for puzzle in helper.few_puzzles():
            paper = self.ask(height_paper, puzzle)
            self.assert_told(True, is_height_paper, paper, puzzle)
            paper[helper.start_of(puzzle)] = 1
            self.assert_told(False, is_height_paper, paper, puzzle)
            paper.clear()
            self.assert_told(False, is_height_paper, paper, puzzle)
            self.assert_told(heights_of(puzzle), height_paper, puzzle)


class PlainWords(helper.Case):

    def test_so_many_there_are(self):
        for puzzle in [FIVE, RING, FIVE_RING, STILL, RING_AND_SWAP] + helper.few_puzzles():
            for number, many in enumerate(PLAIN[len(puzzle)]):
                self.assert_told(many, plain_many, puzzle, number)

    def test_counted_one_by_one(self):
        for puzzle, most in ((RING, 9), (RING_AND_SWAP, 6), (ONE_PLACE_THRICE, 4)):
            many = [0] * (most + 1)
            for word in helper.all_words(puzzle, most):
                many[len(word)] += not any(one == other.swapcase() for one, other in zip(word, word[1:]))
            self.assertEqual(many, [plain_many(puzzle, number) for number in range(most + 1)])

    def test_nought_and_nine_and_beyond(self):
        for puzzle in helper.few_puzzles():
            self.assert_told(1, plain_many, puzzle, 0)
            self.assert_told(PLAIN[len(puzzle)][9], plain_many, puzzle, 9)
            for number in (-1, 10, 11, True, False, None, "1", 10 ** 29, -(10 ** 29)):
                self.assert_refused(NoNumber, plain_many, puzzle, number)

    def test_the_least_number_of_letters_that_may_do(self):
        for wanted, puzzle in ((0, ONE_PLACE), (0, ONE_PLACE_THRICE), (0, STILL), (1, ((1, 0),)), (1, RING),
                               (2, FOUR_RING), (2, FIVE_RING), (3, SIX_STANDS), (1, FIVE_RING * 2), (2, SIX_STANDS * 2),
                               (1, SIX_STANDS * 3), (2, RING_AND_SWAP), (4, FIVE), (3, FIVE + ((1, 0, 2, 3, 4),)),
                               (3, ((1, 0, 2, 3), (1, 2, 3, 0))), (1, ((0, 1), (1, 0)))):
            self.assert_told(wanted, count_bound, puzzle)

    def test_no_fewer_than_the_stands_and_some_stand_is_so_far(self):
        for puzzle in helper.sample_puzzles():
            many = sum(map(len, helper.levels(puzzle)))
            wanted = min(k for k in range(10) if sum(PLAIN[len(puzzle)][:k + 1]) >= many)
            self.assert_told(wanted, count_bound, puzzle)
            self.assertLessEqual(wanted, len(helper.levels(puzzle)) - 1)

    def test_as_many_stands_at_most_are_so_far(self):
        for puzzle in helper.few_puzzles():
            for number, many in enumerate(self.ask(counts, puzzle)[:10]):
                self.assertLessEqual(many, plain_many(puzzle, number))


class Signs(helper.Case):

    def test_some_signs(self):
        for wanted, stand in ((1, (0,)), (1, (0, 1)), (-1, (1, 0)), (1, (0, 1, 2)), (1, (1, 2, 0)), (1, (2, 0, 1)),
                              (-1, (1, 0, 2)), (-1, (0, 2, 1)), (-1, (2, 1, 0)), (-1, (1, 2, 3, 0)), (1, (1, 0, 3, 2)),
                              (1, (3, 2, 1, 0)), (1, (1, 2, 3, 4, 0)), (-1, (1, 2, 0, 4, 3)), (1, (4, 3, 2, 1, 0)),
                              (-1, (4, 1, 2, 3, 0)), (1, (1, 0, 3, 2, 4))):
            self.assert_told(wanted, sign, (tuple(range(len(stand))),), stand)

    def test_twos_of_places_counted(self):
        for places in range(1, 6):
            for puzzle in ((helper.all_deeds(places)[-1],), (helper.all_deeds(places)[0],) * 3):
                for stand in helper.all_deeds(places):
                    twos = [two for two in itertools.combinations(stand, 2) if two[0] > two[1]]
                    self.assert_told(-1 if len(twos) % 2 else 1, sign, puzzle, stand)

    def test_the_signs_of_a_puzzle(self):
        self.assert_told((1,), signs, ONE_PLACE)
        self.assert_told((1, 1, 1), signs, ONE_PLACE_THRICE)
        self.assert_told((1,), signs, RING)
        self.assert_told((1, -1), signs, RING_AND_SWAP)
        self.assert_told((-1, 1), signs, FIVE)
        self.assert_told((-1, 1, -1), signs, ((1, 0, 2), (0, 1, 2), (0, 2, 1)))
        for puzzle in helper.sample_puzzles():
            self.assert_told(tuple(sign(puzzle, deed) for deed in puzzle), signs, puzzle)

    def test_signs_of_words_go_together(self):
        for puzzle in helper.few_puzzles():
            told = dict(zip("xyz", signs(puzzle)))
            for word in helper.all_words(puzzle, 3):
                wanted = 1
                for letter in word:
                    wanted *= told[letter.lower()]
                self.assert_told(wanted, sign, puzzle, deed_of(puzzle, word))
                self.assert_told(wanted, sign, puzzle, deed_of(puzzle, back_of(puzzle, word)))
                for stand in (helper.all_deeds(len(puzzle[0]))[-1], puzzle[0]):
                    self.assert_told(wanted * sign(puzzle, stand), sign, puzzle, behind(puzzle, stand, word))

    def test_barred_stands(self):
        for wanted, puzzle, stand in ((True, RING, (1, 0, 2)), (False, RING, (1, 2, 0)), (False, RING, (0, 1, 2)),
                                      (False, RING_AND_SWAP, (1, 0, 2)), (True, ((0, 1),), (1, 0)),
                                      (False, ((1, 0),), (1, 0)), (True, FIVE_RING, (1, 0, 2, 3, 4)),
                                      (False, FIVE_RING, (1, 0, 3, 2, 4)), (False, ONE_PLACE, (0,)),
                                      (False, ((1, 0, 2, 3), (0, 1, 2, 3)), (0, 1, 3, 2)),
                                      (False, ((0, 1, 2), (0, 1, 2), (1, 0, 2)), (0, 2, 1)),
                                      (True, STILL, (0, 2, 1)), (False, STILL, (1, 2, 0))):
            self.assert_told(wanted, is_barred, puzzle, stand)

    def test_barred_just_where_all_deeds_have_1_and_the_stand_has_not(self):
        for puzzle in helper.sample_puzzles()[::2]:
            found = set().union(*helper.levels(puzzle))
            for stand in helper.some_of(helper.all_deeds(len(puzzle[0])), 5):
                wanted = sign(puzzle, stand) == -1 and set(signs(puzzle)) == {1}
                self.assert_told(wanted, is_barred, puzzle, stand)
                self.assertFalse(wanted and stand in found)

    def test_no_barred_stand_is_come_to(self):
        for puzzle in helper.few_puzzles():
            for stand in self.ask(reached, puzzle):
                self.assert_told(False, is_barred, puzzle, stand)


class MovedPlaces(helper.Case):

    def test_some_stands(self):
        for wanted, puzzle, stand in ((0, ONE_PLACE, (0,)), (0, RING, (0, 1, 2)), (1, RING, (1, 0, 2)),
                                      (1, RING, (1, 2, 0)), (2, ((1, 0, 2),), (1, 2, 0)), (1, ((1, 0, 2),), (0, 2, 1)),
                                      (2, SWAP_OF_FIVE, (1, 0, 3, 2, 4)), (2, SWAP_OF_FIVE, (1, 2, 0, 3, 4)),
                                      (3, SWAP_OF_FIVE, (1, 2, 3, 4, 0)), (2, ((1, 2, 0, 3, 4),), (1, 2, 3, 4, 0)),
                                      (2, ((1, 2, 3, 0, 4),), (1, 2, 3, 4, 0)), (1, FIVE, (1, 2, 3, 4, 0)),
                                      (1, FIVE, (1, 0, 2, 3, 4)), (2, ((1, 2, 0, 3, 4),), (1, 0, 3, 2, 4)),
                                      (2, ((0, 1, 2), (1, 0, 2), (0, 2, 1)), (2, 0, 1))):
            self.assert_told(wanted, moved_bound, puzzle, stand)

    def test_a_puzzle_that_moves_no_place(self):
        for puzzle in (((0, 1),), STILL, ((0, 1, 2, 3, 4),) * 3):
            for stand in helper.some_of(helper.all_deeds(len(puzzle[0])), 3):
                wanted = 0 if stand == helper.start_of(puzzle) else None
                self.assert_told(wanted, moved_bound, puzzle, stand)
            self.assert_told(None, moved_bound, puzzle, helper.all_deeds(len(puzzle[0]))[-1])

    def test_the_least_number_of_letters(self):
        for puzzle in helper.sample_puzzles()[::2]:
            most = max(map(helper.moved_many, puzzle))
            for stand in helper.some_of(helper.all_deeds(len(puzzle[0])), 4):
                many = helper.moved_many(stand)
                fit = [k for k in range(6) if k * most >= many]
                self.assert_told(fit[0] if fit else None, moved_bound, puzzle, stand)

    def test_no_stand_that_is_come_to_is_nearer(self):
        for puzzle in helper.sample_puzzles()[::2]:
            for stand, height in helper.some_of(heights_of(puzzle).items(), 3):
                self.assertLessEqual(self.ask(moved_bound, puzzle, stand), height)


if __name__ == "__main__":
    unittest.main()
