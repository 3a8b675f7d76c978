"""Points 1, 2, 3, 11 and 12: puzzles, deeds and words."""

import itertools
import unittest

from shortdeeds.puzzles import back_of, behind, deed_of, home, is_puzzle, is_stand, is_word, plain
from tests import helper
from tests.helper import FIVE, ONE_PLACE, ONE_PLACE_THRICE, RING, RING_AND_SWAP

TWELVE = "xXyYxyXYyxYX"


def naive_plain(puzzle, word):
    """The document's words: while there are two such letters side by side, the first two go."""
    while True:
        for at in range(len(word) - 1):
            if word[at] != word[at + 1] and word[at].lower() == word[at + 1].lower():
                word = word[:at] + word[at + 2:]
                break
        else:
            return word


class IsPuzzle(helper.Case):

    def test_puzzles_of_each_number_of_deeds_and_places(self):
        for puzzle in helper.sample_puzzles():
            self.assert_told(True, is_puzzle, puzzle)

    def test_one_place_and_one_deed(self):
        self.assert_told(True, is_puzzle, ((0,),))
        self.assert_told(True, is_puzzle, ((0,), (0,)))
        self.assert_told(True, is_puzzle, ((0,), (0,), (0,)))
        self.assert_told(False, is_puzzle, ((0,), (0,), (0,), (0,)))

    def test_five_places_at_most(self):
        self.assert_told(True, is_puzzle, ((4, 3, 2, 1, 0),))
        self.assert_told(False, is_puzzle, ((5, 4, 3, 2, 1, 0),))

    def test_deeds_may_be_alike_and_do_nothing(self):
        self.assert_told(True, is_puzzle, ((1, 0), (1, 0), (1, 0)))
        self.assert_told(True, is_puzzle, ((0, 1, 2), (0, 1, 2)))

    def test_what_is_none(self):
        for thing in helper.no_puzzles():
            self.assert_told(False, is_puzzle, thing)

    def test_tuples_of_few_numbers_one_by_one(self):
        for many in range(7):
            for thing in helper.some_of(itertools.product(range(-1, many + 1), repeat=many), 1 + many ** 3):
                wanted = 1 <= many <= 5 and sorted(thing) == list(range(many))
                self.assert_told(wanted, is_puzzle, (thing,))

    def test_truths_in_a_numbers_place(self):
        for puzzle in helper.few_puzzles():
            self.assert_told(True, is_puzzle, puzzle)
            for at, deed in enumerate(puzzle):
                for number in (0, 1):
                    if number not in deed:
                        continue
                    false = tuple(bool(told) if told == number else told for told in deed)
                    self.assert_told(False, is_puzzle, puzzle[:at] + (false,) + puzzle[at + 1:])
            self.assert_told(True, is_puzzle, puzzle)


class IsStand(helper.Case):

    def test_every_stand_of_a_puzzle(self):
        for puzzle in helper.few_puzzles():
            for stand in helper.all_deeds(len(puzzle[0])):
                self.assert_told(True, is_stand, stand, puzzle)

    def test_a_stand_that_is_not_come_to_is_one(self):
        self.assert_told(True, is_stand, (1, 0, 2), RING)
        self.assert_told(True, is_stand, (1, 0), ((0, 1),))

    def test_one_place(self):
        self.assert_told(True, is_stand, (0,), ONE_PLACE)
        self.assert_told(False, is_stand, (False,), ONE_PLACE)
        self.assert_told(False, is_stand, (1,), ONE_PLACE)
        self.assert_told(False, is_stand, 0, ONE_PLACE)

    def test_what_is_none(self):
        for puzzle in helper.few_puzzles():
            for thing in helper.no_stands(puzzle):
                self.assert_told(False, is_stand, thing, puzzle)

    def test_truths_in_a_numbers_place(self):
        self.assert_told(True, is_stand, (1, 0, 2), RING)
        for thing in ((True, 0, 2), (1, False, 2), (True, False, 2), (False, True, 2), (2, True, 0)):
            self.assert_told(False, is_stand, thing, RING)


class IsWord(helper.Case):

    def test_words_of_the_puzzles_letters(self):
        for puzzle in helper.few_puzzles():
            for word in helper.all_words(puzzle, 3):
                self.assert_told(True, is_word, word, puzzle)

    def test_letters_go_as_far_as_the_deeds(self):
        for many in (1, 2, 3):
            puzzle = ((1, 0),) * many
            for at, letter in enumerate("xyz"):
                self.assert_told(at < many, is_word, letter, puzzle)
                self.assert_told(at < many, is_word, letter.upper(), puzzle)
                self.assert_told(at < many, is_word, "xX" + letter, puzzle)

    def test_the_text_without_signs_is_one(self):
        for puzzle in helper.few_puzzles():
            self.assert_told(True, is_word, "", puzzle)

    def test_words_of_twelve_letters_and_somewhat_beyond(self):
        for puzzle in helper.few_puzzles():
            for word in ("xxxxxxxxxxxx", "XXXXXXXXXXXX", "xXxXXxxXxxXX", "x" * 13, "xX" * 20):
                self.assert_told(True, is_word, word, puzzle)
            self.assert_told(False, is_word, "xxxxxxxxxxxw", puzzle)
        self.assert_told(True, is_word, TWELVE, RING_AND_SWAP)
        self.assert_told(False, is_word, TWELVE, RING)

    def test_what_is_none(self):
        for puzzle in helper.few_puzzles():
            for thing in helper.no_words(puzzle):
                self.assert_told(False, is_word, thing, puzzle)


class Done(helper.Case):

    def test_home(self):
        for puzzle in helper.sample_puzzles():
            self.assert_told(helper.start_of(puzzle), home, puzzle)
        self.assert_told((0,), home, ONE_PLACE)
        self.assert_told((0, 1, 2, 3, 4), home, FIVE)

    def test_at_each_place_lies_what_lay_where_the_deed_says(self):
        puzzle = ((1, 2, 3, 0), (0, 2, 1, 3))
        self.assert_told((2, 0, 1, 3), behind, puzzle, (3, 2, 0, 1), "x")
        self.assert_told((1, 3, 2, 0), behind, puzzle, (3, 2, 0, 1), "X")
        self.assert_told((3, 0, 2, 1), behind, puzzle, (3, 2, 0, 1), "y")
        self.assert_told((3, 0, 2, 1), behind, puzzle, (3, 2, 0, 1), "Y")

    def test_words_are_done_from_the_left(self):
        self.assert_told((2, 1, 0), behind, RING_AND_SWAP, (0, 1, 2), "xy")
        self.assert_told((0, 2, 1), behind, RING_AND_SWAP, (0, 1, 2), "yx")
        self.assert_told((0, 2, 1), behind, RING_AND_SWAP, (0, 1, 2), "xyX")
        self.assert_told((1, 0, 2), behind, RING_AND_SWAP, (0, 1, 2), "xyx")

    def test_letters_are_the_first_second_and_third_deed_and_their_backs(self):
        puzzle = ((1, 2, 0, 3), (0, 2, 3, 1), (1, 2, 3, 0))
        for letter, deed in (("x", (1, 2, 0, 3)), ("y", (0, 2, 3, 1)), ("z", (1, 2, 3, 0)),
                             ("X", (2, 0, 1, 3)), ("Y", (0, 3, 1, 2)), ("Z", (3, 0, 1, 2))):
            self.assert_told(deed, deed_of, puzzle, letter)

    def test_the_stand_behind_each_stand_by_short_words(self):
        for puzzle in helper.few_puzzles():
            for stand in helper.some_of(helper.all_deeds(len(puzzle[0])), 7):
                for word in helper.all_words(puzzle, 2):
                    self.assert_told(helper.walk(puzzle, stand, word), behind, puzzle, stand, word)

    def test_the_stand_behind_a_stand_that_is_not_come_to(self):
        self.assert_told((0, 2, 1), behind, RING, (1, 0, 2), "x")
        self.assert_told((2, 1, 0), behind, RING, (1, 0, 2), "X")

    def test_the_text_without_signs_does_nothing(self):
        for puzzle in helper.few_puzzles():
            for stand in helper.some_of(helper.all_deeds(len(puzzle[0])), 11):
                self.assert_told(stand, behind, puzzle, stand, "")
            self.assert_told(helper.start_of(puzzle), deed_of, puzzle, "")

    def test_one_place(self):
        for word in ("", "x", "X", "xyz", "ZYX", "zZzZzZzZzZzZ"):
            self.assert_told((0,), behind, ONE_PLACE_THRICE, (0,), word)
            self.assert_told((0,), deed_of, ONE_PLACE_THRICE, word)

    def test_words_of_twelve_letters_and_somewhat_beyond(self):
        for word in (TWELVE, "yxyxyxyxyxyx", "x" * 12, "xyXY" * 3, "xy" * 8, "YYYXyxyxYYYXyx"):
            for stand in ((0, 1, 2, 3, 4), (3, 1, 4, 0, 2)):
                self.assert_told(helper.walk(FIVE, stand, word), behind, FIVE, stand, word)
            self.assert_told(helper.walk(FIVE, (0, 1, 2, 3, 4), word), deed_of, FIVE, word)

    def test_the_deed_of_a_word_is_the_stand_that_comes_from_home_by_it(self):
        for puzzle in helper.few_puzzles():
            for word in helper.all_words(puzzle, 3):
                self.assert_told(helper.walk(puzzle, helper.start_of(puzzle), word), deed_of, puzzle, word)
                self.assert_told(deed_of(puzzle, word), behind, puzzle, home(puzzle), word)

    def test_a_word_does_its_deed(self):
        for word in helper.all_words(RING_AND_SWAP, 3):
            deed = deed_of(RING_AND_SWAP, word)
            for stand in helper.all_deeds(3):
                self.assert_told(tuple(stand[place] for place in deed), behind, RING_AND_SWAP, stand, word)


class Backs(helper.Case):

    def test_letters_from_behind_great_ones_small_and_small_ones_great(self):
        for word, back in (("", ""), ("x", "X"), ("X", "x"), ("xy", "YX"), ("xY", "yX"), ("xxY", "yXX"),
                           ("XyxY", "yXYx"), ("xX", "xX"), ("xXyYxyXYyxYX", "xyXYyxYXyYxX")):
            self.assert_told(back, back_of, RING_AND_SWAP, word)
        self.assert_told("zYxZyX", back_of, ONE_PLACE_THRICE, "xYzXyZ")

    def test_the_back_undoes_the_word(self):
        for puzzle in helper.few_puzzles():
            for word in helper.all_words(puzzle, 3):
                back = self.ask(back_of, puzzle, word)
                self.assertEqual(len(back), len(word))
                self.assert_told(word, back_of, puzzle, back)
                self.assert_told(home(puzzle), deed_of, puzzle, word + back)
                for stand in (helper.all_deeds(len(puzzle[0]))[-1], home(puzzle)):
                    self.assert_told(stand, behind, puzzle, behind(puzzle, stand, word), back)

    def test_words_somewhat_beyond_twelve_letters(self):
        self.assert_told("X" * 13 + "y", back_of, RING_AND_SWAP, "Y" + "x" * 13)


class Plain(helper.Case):

    def test_some_words_made_plain(self):
        for word, wanted in (("", ""), ("x", "x"), ("xX", ""), ("Xx", ""), ("xx", "xx"), ("XX", "XX"), ("xY", "xY"),
                             ("xXx", "x"), ("XxX", "X"), ("xyYX", ""), ("xyXY", "xyXY"), ("xyYx", "xx"),
                             ("yxXXy", "yXy"), ("xxXX", ""), ("xXyY", ""), ("xXXx", ""), ("yXxY", ""),
                             ("xyYXx", "x"), ("xyYXyXxY", ""), ("xyXxYXxyXYYx", "xyXYYx"), ("yx", "yx")):
            self.assert_told(wanted, plain, RING_AND_SWAP, word)

    def test_third_letters_are_taken_out_too(self):
        self.assert_told("xz", plain, ONE_PLACE_THRICE, "xyzZYz")
        self.assert_told("Zx", plain, ONE_PLACE_THRICE, "ZZzx")

    def test_deeds_that_are_alike_are_not_taken_out(self):
        puzzle = ((1, 0), (1, 0), (0, 1))
        for word in ("xx", "XX", "xy", "xY", "z", "yX", "zx"):
            self.assert_told(word, plain, puzzle, word)

    def test_all_words_of_few_letters(self):
        for puzzle, most in ((RING, 8), (RING_AND_SWAP, 5), (ONE_PLACE_THRICE, 4)):
            for word in helper.all_words(puzzle, most):
                self.assert_told(naive_plain(puzzle, word), plain, puzzle, word)

    def test_what_is_plain_stays_and_does_the_same(self):
        for puzzle in helper.few_puzzles():
            for word in itertools.chain(helper.all_words(puzzle, 3), ["xX" * 6, "xxxXXXXxxXxx", "XxxXXXXxxXxx"]):
                told = self.ask(plain, puzzle, word)
                self.assertFalse([at for at in range(len(told) - 1) if told[at] == told[at + 1].swapcase()], word)
                self.assert_told(told, plain, puzzle, told)
                self.assert_told(deed_of(puzzle, word), deed_of, puzzle, told)
                self.assert_told("", plain, puzzle, word + back_of(puzzle, word))

    def test_words_of_twelve_letters_and_somewhat_beyond(self):
        for word in (TWELVE, "xyxyxyYXYXYX", "xxxxxxXXXXXX", "yXxYyXxYyXxY", "xyXYxyXYxyXY", "x" * 9 + "X" * 8):
            self.assert_told(naive_plain(FIVE, word), plain, FIVE, word)


if __name__ == "__main__":
    unittest.main()
