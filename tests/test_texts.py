"""Point 13: puzzles written and read."""

import unittest

from shortdeeds.errors import NoText
from shortdeeds.puzzles import is_puzzle
from shortdeeds.texts import read, show
from tests import helper


class Show(helper.Case):

    def test_some_puzzles(self):
        for puzzle, text in ((((1, 0, 2, 3, 4), (1, 2, 3, 4, 0)), "10234 12340"), (((0,),), "0"),
                             (((0,), (0,), (0,)), "0 0 0"), (((1, 2, 0),), "120"), (((1, 0), (0, 1)), "10 01"),
                             (((3, 2, 1, 0), (0, 1, 2, 3), (0, 1, 3, 2)), "3210 0123 0132")):
            self.assert_told(text, show, puzzle)
            self.assert_told(puzzle, read, text)

    def test_what_is_written_is_read_to_the_same(self):
        for puzzle in helper.sample_puzzles():
            text = self.ask(show, puzzle)
            self.assert_same(text, " ".join("".join(map(str, deed)) for deed in puzzle))
            self.assert_told(puzzle, read, text)


class Read(helper.Case):

    def assert_no_text(self, at, thing):
        refusal = self.assert_refused(NoText, read, thing)
        self.assert_same(refusal.at, at, repr(thing))

    def test_a_text_with_no_one_two_three_and_four_words(self):
        self.assert_no_text(0, "")
        self.assert_told(((1, 0),), read, "10")
        self.assert_told(((1, 0), (0, 1)), read, "10 01")
        self.assert_told(((1, 0), (0, 1), (1, 0)), read, "10 01 10")
        self.assert_no_text(3, "10 01 10 01")
        self.assert_no_text(3, "0 0 0 0")
        self.assert_no_text(3, "10 01 10 01 10 01")

    def test_a_fourth_word_is_one_too_many_whatever_it_is(self):
        for word in ("", "x", "012", "11"):
            self.assert_no_text(3, "10 01 10 " + word)
        self.assert_no_text(3, "0 0 0  0")

    def test_blanks_side_by_side_ahead_and_behind(self):
        self.assert_no_text(1, "10  01")
        self.assert_no_text(1, "10   01")
        self.assert_no_text(2, "10 01  10")
        self.assert_no_text(0, " 10 01")
        self.assert_no_text(0, " ")
        self.assert_no_text(0, "   ")
        self.assert_no_text(1, "10 ")
        self.assert_no_text(1, "0  ")
        self.assert_no_text(2, "10 01 ")
        self.assert_no_text(3, "10 01 10 ")

    def test_words_that_are_no_deed(self):
        for word in ("x", "1", "2", "00", "11", "12", "21", "02", "011", "0123456789", "012345", "543210", "01235",
                     "O", "-0", "+0", "0.", "0,1", "01,", "(0,)", "((0,),)", "zero", "a10", "10a", "0_1",
                     "\t", "10\t01", "10\n01", "10\n", "\n10", "01\r", "/0", ":0", "0" * 40, "01234" * 8, "1-1", "e0"):
            self.assert_no_text(0, word)
            self.assert_no_text(0, word + " 10")
            self.assert_no_text(0, word + " x")
        for word in ("x", "1", "00", "11", "12", "02", "0a", "-1", "1\t", "\n", "012345", "1.", "l0"):
            self.assert_no_text(1, "10 " + word)
            self.assert_no_text(1, "01 " + word + " 10")
            self.assert_no_text(2, "10 01 " + word)

    def test_the_first_wrong_word_is_told(self):
        self.assert_no_text(0, "1 x 0 0")
        self.assert_no_text(1, "0 x y 0")
        self.assert_no_text(1, "10 0 x 10")
        self.assert_no_text(2, "10 01 x 10")
        self.assert_no_text(0, "x 01 012 0123")
        self.assert_no_text(1, "01 012 012 012")

    def test_another_number_of_places_than_the_first(self):
        deeds = ["0", "10", "021", "3210", "10234"]
        for first in deeds:
            for other in deeds:
                if first != other:
                    self.assert_no_text(1, first + " " + other)
                    self.assert_no_text(1, first + " " + other + " " + first)
                    self.assert_no_text(1, first + " " + other + " " + other)
                    self.assert_no_text(2, first + " " + first + " " + other)

    def test_what_is_no_text(self):
        for thing in helper.things() + [helper.FIVE, ["10", "01"], {"10": "01"}, ("0",), [["0"]], 10, 0]:
            self.assert_no_text(0, thing)

    def test_other_texts(self):
        for text in helper.texts():
            if text not in ("0", "10", "10 01"):
                self.assert_no_text(0, text)

    def test_short_texts_one_by_one(self):
        written = {" ".join("".join(map(str, deed)) for deed in puzzle): puzzle for puzzle in
                   [(one,) for many in (1, 2, 3, 4, 5) for one in helper.all_deeds(many)]
                   + [(one, other) for many in (1, 2) for one in helper.all_deeds(many)
                      for other in helper.all_deeds(many)] + [((0,), (0,), (0,))]}
        texts = [""]
        for _ in range(5):
            texts = [text + sign for text in texts for sign in " 012"]
            for text in texts:
                if text in written:
                    self.assertTrue(is_puzzle(written[text]))
                    self.assert_told(written[text], read, text)
                else:
                    self.assert_refused(NoText, read, text)


if __name__ == "__main__":
    unittest.main()
