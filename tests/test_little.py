"""Points 51 to 54: words that move little, rings, and learned words."""

import unittest

from shortdeeds.errors import NoNumber, NoWord
from shortdeeds.little import exchange, learned, little_word, moved, rings, turned
from shortdeeds.puzzles import back_of, deed_of
from tests import helper
from tests.helper import FIVE, ONE_PLACE, ONE_PLACE_THRICE, RING, RING_AND_SWAP

SIX_STANDS = ((1, 2, 0, 4, 3),)
STILL = ((0, 1, 2), (0, 1, 2))
SIX_LETTERS = ("xxxxxx", "XXXXXX", "xXxXxX", "xXXxxx", "XxXXXx")
SIX_LETTERS_OF_TWO = ("xyxyxy", "xyXYxy", "YYYYYX", "yxXyXY", "XyyxYx")


def short_words(puzzle):
    """Words of at most two letters, and some of six."""
    return [*helper.all_words(puzzle, 2), *SIX_LETTERS, *(SIX_LETTERS_OF_TWO if len(puzzle) > 1 else ())]


def moved_by(puzzle, word):
    start = helper.start_of(puzzle)
    return [place for place in start if helper.walk(puzzle, start, word)[place] != place]


def rings_by(puzzle, word):
    """How many places each ring has, the places put together one by one."""
    deed = helper.walk(puzzle, helper.start_of(puzzle), word)
    lots = [{place} for place in deed]
    for place, number in enumerate(deed):
        one = [lot for lot in lots if place in lot or number in lot]
        lots = [lot for lot in lots if lot not in one] + [set().union(*one)]
    return tuple(sorted(map(len, lots), reverse=True))


class Moved(helper.Case):

    def test_some_words(self):
        for wanted, puzzle, word in (
                ([], ONE_PLACE, "x"), ([], ONE_PLACE_THRICE, "xyZ"), ([], RING, ""), ([0, 1, 2], RING, "x"),
                ([], RING, "xX"), ([], RING, "xxx"), ([0, 1, 2], RING, "XX"), ([0, 1], RING_AND_SWAP, "y"),
                ([0, 1], RING_AND_SWAP, "Y"), ([], RING_AND_SWAP, "yy"), ([0, 2], RING_AND_SWAP, "xy"),
                ([1, 2], RING_AND_SWAP, "yx"), ([], STILL, "xyX"), ([3, 4], SIX_STANDS, "xxx"),
                ([0, 1, 2], SIX_STANDS, "xx"), ([], SIX_STANDS, "xxxxxx"), ([0, 1, 2, 3, 4], FIVE, "y"),
                ([2, 3], FIVE, "YYYxyyy")):
            self.assert_told(wanted, moved, puzzle, word)

    def test_the_places_where_the_deed_has_another_number(self):
        for puzzle in helper.few_puzzles():
            for word in short_words(puzzle):
                self.assert_told(moved_by(puzzle, word), moved, puzzle, word)

    def test_a_back_moves_the_same_places(self):
        for puzzle in helper.few_puzzles():
            for word in short_words(puzzle):
                self.assert_told(moved(puzzle, word), moved, puzzle, back_of(puzzle, word))


class Exchanges(helper.Case):

    def test_the_one_the_other_the_back_of_the_one_the_back_of_the_other(self):
        for wanted, puzzle, word, other in (
                ("", RING, "", ""), ("xX", RING, "x", ""), ("xX", RING, "", "x"), ("xxXX", RING, "x", "x"),
                ("xXXx", RING, "x", "X"), ("xyXY", FIVE, "x", "y"), ("yxYX", FIVE, "y", "x"), ("YXyx", FIVE, "Y", "X"),
                ("xyyXYXxY", FIVE, "xy", "yX"), ("xxyXXY", FIVE, "xx", "y"), ("xyyXYY", FIVE, "x", "yy"),
                ("xYxYxYXXyyyyyXyXyXYYYYxx", FIVE, "xYxYxY", "XXyyyy"), ("zXZx", ONE_PLACE_THRICE, "z", "X")):
            self.assert_told(wanted, exchange, puzzle, word, other)

    def test_the_other_the_one_and_the_back_of_the_other(self):
        for wanted, puzzle, word, other in (
                ("", RING, "", ""), ("x", RING, "x", ""), ("xX", RING, "", "x"), ("xxX", RING, "x", "x"),
                ("Xxx", RING, "x", "X"), ("yxY", FIVE, "x", "y"), ("xyX", FIVE, "y", "x"), ("XYx", FIVE, "Y", "X"),
                ("yXxyxY", FIVE, "xy", "yX"), ("yxxY", FIVE, "xx", "y"), ("yyxYY", FIVE, "x", "yy"),
                ("XXyyyyxYxYxYYYYYxx", FIVE, "xYxYxY", "XXyyyy"), ("Xzx", ONE_PLACE_THRICE, "z", "X")):
            self.assert_told(wanted, turned, puzzle, word, other)

    def test_all_short_words(self):
        for puzzle in helper.few_puzzles():
            for word in short_words(puzzle)[::2]:
                for other in short_words(puzzle)[1::3]:
                    backs = [one[::-1].swapcase() for one in (word, other)]
                    self.assert_told(word + other + backs[0] + backs[1], exchange, puzzle, word, other)
                    self.assert_told(other + word + backs[1], turned, puzzle, word, other)

    def test_what_is_told_is_a_word_whose_deed_can_be_asked(self):
        told = self.ask(exchange, FIVE, "x", "y")
        self.assert_told(helper.walk(FIVE, (0, 1, 2, 3, 4), told), deed_of, FIVE, told)
        self.assert_told(told + "x" + back_of(FIVE, told), turned, FIVE, "x", told)

    def test_the_one_turned_moves_just_as_many_places(self):
        for puzzle in helper.few_puzzles():
            for word in helper.all_words(puzzle, 2):
                for other in helper.some_of(helper.all_words(puzzle, 2), 3):
                    told = self.ask(turned, puzzle, word, other)
                    self.assertEqual(len(moved(puzzle, told)), len(moved(puzzle, word)))
                    self.assert_told(rings(puzzle, word), rings, puzzle, told)

    def test_where_just_one_place_is_in_common_the_exchange_moves_three(self):
        met = 0
        for puzzle in helper.few_puzzles() + [((1, 0, 2, 3, 4), (0, 2, 1, 3, 4)), ((1, 2, 0, 3, 4), (0, 1, 3, 4, 2))]:
            for word in helper.all_words(puzzle, 2):
                for other in helper.all_words(puzzle, 2):
                    if len(set(moved_by(puzzle, word)) & set(moved_by(puzzle, other))) == 1:
                        met += 1
                        self.assertEqual(len(moved(puzzle, self.ask(exchange, puzzle, word, other))), 3)
        self.assertGreater(met, 50)

    def test_each_of_both_words_may_be_none(self):
        for function in (exchange, turned):
            for word in ("y", "xY", "z", "w", " ", "x ", None, 0, True, [], ("x",), ["x"], {"x": "x"}):
                self.assert_refused(NoWord, function, RING, word, "x")
                self.assert_refused(NoWord, function, RING, "x", word)
                self.assert_refused(NoWord, function, RING, word, word)


class Rings(helper.Case):

    def test_some_rings(self):
        for wanted, puzzle, word in (
                ((1,), ONE_PLACE, ""), ((1,), ONE_PLACE_THRICE, "zXy"), ((2,), ((1, 0),), "x"),
                ((1, 1), ((1, 0),), "xx"), ((3,), RING, "x"), ((3,), RING, "X"), ((1, 1, 1), RING, ""),
                ((1, 1, 1), RING, "xX"), ((2, 1), RING_AND_SWAP, "y"), ((2, 1), RING_AND_SWAP, "xy"),
                ((3, 2), SIX_STANDS, "x"), ((3, 1, 1), SIX_STANDS, "xx"), ((2, 1, 1, 1), SIX_STANDS, "xxx"),
                ((1, 1, 1, 1, 1), SIX_STANDS, "xxxxxx"), ((5,), FIVE, "y"), ((2, 1, 1, 1), FIVE, "x"),
                ((4, 1), FIVE, "xy"), ((2, 2), ((1, 0, 3, 2),), "x"), ((2, 2, 1), ((1, 0, 2, 4, 3),), "x"),
                ((2, 2, 1), ((0, 2, 1, 4, 3),), "x"), ((3, 2), ((1, 0, 3, 4, 2),), "X"),
                ((3, 1), ((0, 2, 3, 1),), "x"), ((4,), ((2, 3, 1, 0),), "x"), ((2, 1, 1), ((0, 1, 3, 2),), "x"),
                ((3, 1, 1), ((0, 1, 3, 4, 2),), "x")):
            self.assert_told(wanted, rings, puzzle, word)

    def test_all_deeds(self):
        for places in range(1, 6):
            for deed in helper.all_deeds(places):
                self.assert_told(rings_by((deed,), "x"), rings, (deed,), "x")

    def test_short_words(self):
        for puzzle in helper.few_puzzles():
            for word in short_words(puzzle):
                self.assert_told(rings_by(puzzle, word), rings, puzzle, word)

    def test_the_places_of_all_rings_are_all_places_and_rings_of_one_are_not_moved(self):
        for puzzle in helper.few_puzzles():
            for word in short_words(puzzle):
                told = self.ask(rings, puzzle, word)
                self.assertEqual(sum(told), len(puzzle[0]))
                self.assertEqual(told.count(1), len(puzzle[0]) - len(moved(puzzle, word)))


class LittleWords(helper.Case):

    def test_some_words(self):
        for wanted, puzzle, number, most in (
                ("", ONE_PLACE, 0, 0), ("", ONE_PLACE, 0, 5), (None, ONE_PLACE, 1, 5), (None, ONE_PLACE, 5, 5),
                ("", RING, 0, 5), ("X", RING, 3, 5), ("X", RING, 3, 1), (None, RING, 3, 0), (None, RING, 2, 5),
                ("Y", RING_AND_SWAP, 2, 1), ("X", RING_AND_SWAP, 3, 1), (None, STILL, 2, 5), (None, STILL, 3, 5),
                ("X", SIX_STANDS, 5, 5), ("XX", SIX_STANDS, 3, 2), (None, SIX_STANDS, 3, 1), ("XXX", SIX_STANDS, 2, 3),
                (None, SIX_STANDS, 2, 2), (None, SIX_STANDS, 4, 5), ("X", FIVE, 2, 3), ("Y", FIVE, 5, 5),
                ("XY", FIVE, 4, 2), ("XYXy", FIVE, 3, 4), (None, FIVE, 3, 3)):
            self.assert_told(wanted, little_word, puzzle, number, most)

    def test_the_first_of_all_words_in_order(self):
        for puzzle, greatest in ((RING, 5), (SIX_STANDS, 5), (((1, 2, 3, 4, 0),), 5), (RING_AND_SWAP, 5), (FIVE, 5),
                                 (((1, 2, 0, 3, 4), (0, 1, 3, 4, 2)), 5), (STILL, 5), (ONE_PLACE_THRICE, 3),
                                 (((1, 0, 2, 3, 4), (0, 2, 1, 3, 4), (1, 2, 3, 4, 0)), 4)):
            for most in range(greatest + 1):
                first = {}
                for word in helper.all_words(puzzle, most):
                    first.setdefault(len(moved_by(puzzle, word)), word)
                for number in range(6):
                    self.assert_told(first.get(number), little_word, puzzle, number, most)

    def test_the_least_of_the_least_words(self):
        for puzzle in helper.few_puzzles():
            found = helper.least_words(puzzle)
            for number in range(6):
                for most in range(6):
                    fit = [word for stand, word in found.items()
                           if helper.moved_many(stand) == number and len(word) <= most]
                    wanted = min(fit, key=lambda word: (len(word), word)) if fit else None
                    self.assert_told(wanted, little_word, puzzle, number, most)

    def test_numbers_of_nought_and_five_and_beyond(self):
        for puzzle in helper.few_puzzles():
            self.assert_told("", little_word, puzzle, 0, 0)
            self.assert_told("", little_word, puzzle, 0, 5)
            self.assert_told(None, little_word, puzzle, 5, 0)
            for number in (-1, 6, 7, True, False, None, "0", [0], 10 ** 29):
                self.assert_refused(NoNumber, little_word, puzzle, number, 0)
                self.assert_refused(NoNumber, little_word, puzzle, 0, number)
                self.assert_refused(NoNumber, little_word, puzzle, number, number)


class Learned(helper.Case):

    def test_some_learned_words(self):
        self.assert_told({(0,): ""}, learned, ONE_PLACE, 0)
        self.assert_told({(0,): ""}, learned, ONE_PLACE_THRICE, 5)
        self.assert_told({(0, 1, 2): ""}, learned, RING, 0)
        self.assert_told({(0, 1, 2): "", (1, 2, 0): "x", (2, 0, 1): "X"}, learned, RING, 1)
        self.assert_told({(0, 1, 2): "", (1, 2, 0): "x", (2, 0, 1): "X"}, learned, RING, 2)
        self.assert_told({(0, 1, 2): "", (1, 2, 0): "x", (2, 0, 1): "X", (1, 0, 2): "Y"}, learned, RING_AND_SWAP, 1)
        self.assert_told({(0, 1, 2): ""}, learned, STILL, 5)

    def test_the_least_word_of_each_stand_that_comes_by_so_few_letters(self):
        for puzzle in helper.sample_puzzles()[::2] + helper.few_puzzles():
            found = helper.least_words(puzzle)
            for most in range(6):
                wanted = {stand: word for stand, word in found.items() if len(word) <= most}
                self.assert_told(wanted, learned, puzzle, most)

    def test_numbers_of_nought_and_five_and_beyond(self):
        for puzzle in helper.few_puzzles():
            for number in (-1, 6, 7, True, False, None, "0", [0], 10 ** 29):
                self.assert_refused(NoNumber, learned, puzzle, number)

    def test_what_is_told_is_the_askers_own(self):
        for puzzle in helper.few_puzzles():
            wanted = {stand: word for stand, word in helper.least_words(puzzle).items() if len(word) <= 3}
            told = self.ask(learned, puzzle, 3)
            told[helper.start_of(puzzle)] = "changed"
            told[None] = 0
            self.assert_told(wanted, learned, puzzle, 3)
            told.clear()
            self.assert_told(wanted, learned, puzzle, 3)


if __name__ == "__main__":
    unittest.main()
