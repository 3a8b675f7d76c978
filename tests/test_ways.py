"""Points 6 and 21 to 24: the stands that are come to, and their least words."""

import unittest

from shortdeeds.puzzles import back_of, behind, deed_of, home
from shortdeeds.ways import counts, far, farthest, least_word, reached, words
from tests import helper
from tests.helper import FIVE, ONE_PLACE, ONE_PLACE_THRICE, RING, RING_AND_SWAP


def inverse(stand):
    return tuple(stand.index(piece) for piece in range(len(stand)))


class ByHand(helper.Case):

    def test_one_place(self):
        for puzzle in (ONE_PLACE, ((0,), (0,)), ONE_PLACE_THRICE):
            self.assert_told([(0,)], reached, puzzle)
            self.assert_told("", least_word, puzzle, (0,))
            self.assert_told(0, far, puzzle, (0,))
            self.assert_told([1], counts, puzzle)
            self.assert_told((0,), farthest, puzzle)
            self.assert_told({(0,): ""}, words, puzzle)

    def test_a_deed_that_does_nothing(self):
        puzzle = ((0, 1, 2), (0, 1, 2))
        self.assert_told([(0, 1, 2)], reached, puzzle)
        self.assert_told([1], counts, puzzle)
        self.assert_told((0, 1, 2), farthest, puzzle)
        self.assert_told({(0, 1, 2): ""}, words, puzzle)
        self.assert_told(None, least_word, puzzle, (1, 0, 2))

    def test_two_places(self):
        for puzzle in (((1, 0),), ((1, 0), (1, 0)), ((1, 0), (0, 1), (1, 0))):
            self.assert_told([(0, 1), (1, 0)], reached, puzzle)
            self.assert_told({(0, 1): "", (1, 0): "X"}, words, puzzle)
            self.assert_told([1, 1], counts, puzzle)
            self.assert_told((1, 0), farthest, puzzle)
        self.assert_told({(0, 1): "", (1, 0): "Y"}, words, ((0, 1), (1, 0)))

    def test_one_ring(self):
        self.assert_told([(0, 1, 2), (1, 2, 0), (2, 0, 1)], reached, RING)
        self.assert_told({(0, 1, 2): "", (1, 2, 0): "x", (2, 0, 1): "X"}, words, RING)
        self.assert_told([1, 2], counts, RING)
        self.assert_told((1, 2, 0), farthest, RING)

    def test_a_ring_and_a_swap(self):
        wanted = {(0, 1, 2): "", (2, 0, 1): "X", (1, 0, 2): "Y", (1, 2, 0): "x", (0, 2, 1): "XY", (2, 1, 0): "YX"}
        self.assert_told(wanted, words, RING_AND_SWAP)
        for stand, word in wanted.items():
            self.assert_told(word, least_word, RING_AND_SWAP, stand)
            self.assert_told(len(word), far, RING_AND_SWAP, stand)
        self.assert_told(sorted(wanted), reached, RING_AND_SWAP)
        self.assert_told([1, 3, 2], counts, RING_AND_SWAP)
        self.assert_told((0, 2, 1), farthest, RING_AND_SWAP)

    def test_five_places_all_come_to(self):
        self.assert_told(helper.all_deeds(5), reached, FIVE)
        self.assertEqual(sum(counts(FIVE)), 120)

    def test_a_stand_that_is_not_come_to(self):
        for puzzle, stand in ((RING, (1, 0, 2)), (((0, 1),), (1, 0)), (((1, 2, 3, 4, 0),), (1, 0, 2, 3, 4)),
                              (((1, 0, 2, 3), (0, 1, 3, 2)), (2, 3, 0, 1))):
            self.assert_told(None, least_word, puzzle, stand)
            self.assert_told(None, far, puzzle, stand)
            self.assertNotIn(stand, reached(puzzle))
            self.assertNotIn(stand, words(puzzle))


class ByTheWords(helper.Case):

    def test_the_first_of_all_words_in_order_that_comes_to_a_stand(self):
        for puzzle, most in ((((1, 2, 3, 0),), 4), (((1, 2, 3, 4, 0),), 5), (RING_AND_SWAP, 4),
                             (((1, 0, 2, 3), (1, 2, 3, 0)), 7), (((1, 0, 2), (0, 2, 1), (2, 0, 1)), 3),
                             (((1, 2, 0, 3), (0, 2, 3, 1), (3, 1, 2, 0)), 5), (((2, 0, 1, 4, 3),), 6),
                             (((0, 1, 3, 2), (1, 2, 0, 3)), 7)):
            first = {}
            for word in helper.all_words(puzzle, most):
                first.setdefault(helper.walk(puzzle, helper.start_of(puzzle), word), word)
            self.assertEqual(len(first), sum(map(len, helper.levels(puzzle))), puzzle)
            self.assert_told(first, words, puzzle)

    def test_all_that_is_told_of_the_sample_puzzles(self):
        for puzzle in helper.sample_puzzles():
            wanted = helper.least_words(puzzle)
            many = [len(level) for level in helper.levels(puzzle)]
            self.assert_told(wanted, words, puzzle)
            self.assert_told(sorted(wanted), reached, puzzle)
            self.assert_told(many, counts, puzzle)
            self.assert_told(min(helper.levels(puzzle)[-1]), farthest, puzzle)

    def test_each_stand_is_told_its_least_word_and_how_far_it_is(self):
        for puzzle in helper.few_puzzles():
            wanted = helper.least_words(puzzle)
            for stand in helper.some_of(helper.all_deeds(len(puzzle[0])), 3):
                word = wanted.get(stand)
                self.assert_told(word, least_word, puzzle, stand)
                self.assert_told(None if word is None else len(word), far, puzzle, stand)


class Together(helper.Case):

    def test_a_least_word_leads_from_home_to_its_stand(self):
        for puzzle in helper.sample_puzzles():
            for stand, word in self.ask(words, puzzle).items():
                self.assert_told(stand, deed_of, puzzle, word)

    def test_a_least_word_with_its_last_letter_left_out_is_a_least_word(self):
        for puzzle in helper.sample_puzzles():
            told = self.ask(words, puzzle)
            for word in told.values():
                if word:
                    self.assertEqual(told[deed_of(puzzle, word[:-1])], word[:-1])

    def test_the_back_of_a_word_leads_home_from_where_the_word_led_to(self):
        for puzzle in helper.few_puzzles():
            for stand, word in self.ask(words, puzzle).items():
                self.assert_told(home(puzzle), behind, puzzle, stand, back_of(puzzle, word))

    def test_a_stands_back_is_as_far_as_it(self):
        for puzzle in helper.sample_puzzles():
            told = self.ask(words, puzzle)
            for stand in told:
                self.assertEqual(len(told[inverse(stand)]), len(told[stand]))
        for stand in helper.some_of(helper.all_deeds(5), 9):
            self.assert_told(far(FIVE, stand), far, FIVE, inverse(stand))

    def test_the_counts_count_what_is_come_to(self):
        for puzzle in helper.sample_puzzles():
            told = self.ask(counts, puzzle)
            self.assertEqual(told[0], 1)
            self.assertGreater(min(told), 0)
            self.assertEqual(sum(told), len(reached(puzzle)))

    def test_the_farthest_is_as_far_as_the_counts_go(self):
        for puzzle in helper.few_puzzles():
            self.assert_told(len(counts(puzzle)) - 1, far, puzzle, self.ask(farthest, puzzle))

    def test_what_is_told_is_handed_in_again(self):
        for puzzle in helper.few_puzzles():
            stand = farthest(puzzle)
            word = least_word(puzzle, stand)
            long = word + back_of(puzzle, word) + word + word
            self.assert_told(helper.walk(puzzle, stand, word), deed_of, puzzle, long)


if __name__ == "__main__":
    unittest.main()
