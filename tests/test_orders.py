"""Points 71 to 74: deeds done many times, stands turned by words, and words that can be exchanged."""

import math
import unittest

from shortdeeds.errors import NoNumber, NoPuzzle, NoStand, NoWord
from shortdeeds.little import exchange, moved, rings, turned
from shortdeeds.orders import can_exchange, lot, middle, order, power, turned_stand, turning_word
from shortdeeds.puzzles import back_of, behind, deed_of, home
from shortdeeds.ways import least_word, reached
from tests import helper
from tests.helper import FIVE, ONE_PLACE, ONE_PLACE_THRICE, RING, RING_AND_SWAP

STILL = ((0, 1, 2), (0, 1, 2))
SIX_STANDS = ((1, 2, 0, 4, 3),)
# A square turned over: of its eight stands just one other than home is its own lot alone.
SQUARE = ((1, 2, 3, 0), (1, 0, 3, 2))
SWAPS = ((1, 0, 3, 2), (2, 3, 0, 1))
# All stands of five places with the sign 1.
EVEN = ((1, 2, 0, 3, 4), (1, 2, 3, 4, 0))
SIX_LETTERS = ("xxxxxx", "XXXXXX", "xXxXxX", "xXXxxx")
SIX_LETTERS_OF_TWO = ("xyxyxy", "xyXYxy", "YYYYYX", "yxXyXY")


def short_words(puzzle, most=2):
    return [*helper.all_words(puzzle, most), *SIX_LETTERS, *(SIX_LETTERS_OF_TWO if len(puzzle) > 1 else ())]


def order_by(puzzle, word):
    """How often the word is done one behind the other until home comes again."""
    start = helper.start_of(puzzle)
    now, many = helper.walk(puzzle, start, word), 1
    while now != start:
        now, many = helper.walk(puzzle, now, word), many + 1
    return many


def lot_by(puzzle, stand):
    """The stands that come of it, turned by one letter after the other."""
    found, edge = {stand}, [stand]
    while edge:
        one = edge.pop()
        for letter in helper.letters(puzzle):
            then = helper.turned_plainly(puzzle, one, letter)
            if then not in found:
                found.add(then)
                edge.append(then)
    return sorted(found)


def twice_and_on(stand, number):
    """The stand as a deed, done so many times: by doing what comes twice, again and again."""
    done = tuple(range(len(stand)))
    while number:
        if number % 2:
            done = tuple(done[place] for place in stand)
        stand = tuple(stand[place] for place in stand)
        number //= 2
    return done


def some_stands(puzzle, step):
    return [*helper.some_of(helper.all_deeds(len(puzzle[0])), step), *puzzle, helper.start_of(puzzle)]


class Orders(helper.Case):

    def test_some_words(self):
        for wanted, puzzle, word in (
                (1, ONE_PLACE, ""), (1, ONE_PLACE, "x"), (1, ONE_PLACE_THRICE, "xYzzzz"), (1, RING, ""),
                (3, RING, "x"), (3, RING, "X"), (1, RING, "xX"), (3, RING, "xx"), (1, RING, "xxx"),
                (2, RING_AND_SWAP, "y"), (2, RING_AND_SWAP, "xy"), (3, RING_AND_SWAP, "xyxyx"), (1, STILL, "x"),
                (1, STILL, "xyY"), (6, SIX_STANDS, "x"), (3, SIX_STANDS, "xx"), (2, SIX_STANDS, "xxx"),
                (3, SIX_STANDS, "XXXX"), (6, SIX_STANDS, "xxxxx"), (1, SIX_STANDS, "xxxxxx"), (5, FIVE, "y"),
                (5, FIVE, "yyyyyy"), (4, FIVE, "xy"), (4, ((1, 2, 3, 0),), "x"), (2, ((1, 2, 3, 0),), "xx"),
                (2, ((1, 0, 3, 2),), "x"), (1, ((0, 1),), "x"), (2, ((1, 0),), "x")):
            self.assert_told(wanted, order, puzzle, word)

    def test_every_deed(self):
        for places in range(1, 6):
            for deed in helper.all_deeds(places):
                self.assert_told(order_by((deed,), "x"), order, (deed,), "x")

    def test_short_words(self):
        for puzzle in helper.few_puzzles() + [SQUARE, EVEN]:
            for word in short_words(puzzle):
                self.assert_told(order_by(puzzle, word), order, puzzle, word)

    def test_the_least_number_that_all_its_rings_divide(self):
        for puzzle in helper.few_puzzles() + [SIX_STANDS, SQUARE, EVEN]:
            for word in short_words(puzzle):
                self.assert_told(math.lcm(*rings(puzzle, word)), order, puzzle, word)

    def test_a_word_turned_and_a_back_have_the_same_order(self):
        for puzzle in helper.few_puzzles():
            for word in short_words(puzzle)[::2]:
                many = order(puzzle, word)
                self.assert_told(many, order, puzzle, back_of(puzzle, word))
                for other in short_words(puzzle)[1::3]:
                    self.assert_told(many, order, puzzle, turned(puzzle, word, other))

    def test_the_order_divides_the_number_of_stands(self):
        for puzzle in helper.few_puzzles():
            for word in short_words(puzzle)[::3]:
                self.assertEqual(len(reached(puzzle)) % self.ask(order, puzzle, word), 0)

    def test_words_somewhat_beyond_six_letters(self):
        self.assert_told(3, order, RING, "x" * 13)
        self.assert_told(2, order, RING_AND_SWAP, "xyxyxyxyxyxyy" + "x")
        self.assert_told((1, 2, 0), power, RING, "x" * 13, 1)


class Powers(helper.Case):

    def test_some_numbers(self):
        for wanted, puzzle, word, number in (
                ((0,), ONE_PLACE, "x", 0), ((0,), ONE_PLACE, "xxx", 7), ((0, 1, 2), RING, "x", 0),
                ((1, 2, 0), RING, "x", 1), ((2, 0, 1), RING, "x", 2), ((0, 1, 2), RING, "x", 3),
                ((1, 2, 0), RING, "x", 4), ((2, 0, 1), RING, "X", 1), ((2, 0, 1), RING, "xx", 1),
                ((1, 2, 0), RING, "xx", 2), ((0, 1, 2), RING, "", 10 ** 29),
                ((1, 0, 2), RING_AND_SWAP, "y", 10 ** 29 + 1),
                ((0, 1, 2), RING_AND_SWAP, "y", 10 ** 29), ((1, 2, 0, 4, 3), SIX_STANDS, "x", 7),
                ((0, 1, 2, 4, 3), SIX_STANDS, "x", 3), ((2, 0, 1, 3, 4), SIX_STANDS, "x", 8)):
            self.assert_told(wanted, power, puzzle, word, number)

    def test_nought_times_does_nothing(self):
        for puzzle in helper.few_puzzles():
            for word in short_words(puzzle):
                self.assert_told(helper.start_of(puzzle), power, puzzle, word, 0)

    def test_the_word_one_behind_the_other(self):
        for puzzle in helper.few_puzzles() + [SIX_STANDS, SQUARE, EVEN]:
            for word in short_words(puzzle)[::2]:
                for number in range(8):
                    wanted = helper.walk(puzzle, helper.start_of(puzzle), word * number)
                    self.assert_told(wanted, power, puzzle, word, number)

    def test_numbers_of_thirty_figures(self):
        for puzzle in helper.few_puzzles() + [SIX_STANDS]:
            for word in short_words(puzzle)[::5]:
                deed = helper.walk(puzzle, helper.start_of(puzzle), word)
                for number in (10 ** 29, 10 ** 30 - 1, 123456789012345678901234567890, 60 * 10 ** 28 + 1, 2 ** 99):
                    self.assert_told(twice_and_on(deed, number), power, puzzle, word, number)

    def test_as_many_times_as_the_order_leads_home_and_no_fewer_do(self):
        for puzzle in helper.few_puzzles():
            for word in short_words(puzzle)[::4]:
                many = order(puzzle, word)
                led = [self.ask(power, puzzle, word, number) == home(puzzle) for number in range(1, many + 1)]
                self.assertEqual(led, [False] * (many - 1) + [True])

    def test_what_is_no_number_from_nought_on(self):
        for number in (-1, -2, -(10 ** 29), True, False, None, "", "1", "x", [], [1], (1,), {}, {1: 1}, (), (True,)):
            self.assert_refused(NoNumber, power, RING, "x", number)
            self.assert_refused(NoNumber, power, ONE_PLACE, "", number)
            self.assert_refused(NoWord, power, RING, "y", number)
            self.assert_refused(NoPuzzle, power, "x", "y", number)


class TurnedStands(helper.Case):

    def test_some_stands(self):
        for wanted, puzzle, stand, word in (
                ((0,), ONE_PLACE, (0,), "x"), ((0, 1, 2), RING, (0, 1, 2), "x"), ((1, 2, 0), RING, (1, 2, 0), "x"),
                ((1, 0, 2), RING, (1, 0, 2), ""), ((0, 2, 1), RING, (1, 0, 2), "x"), ((2, 1, 0), RING, (1, 0, 2), "X"),
                ((2, 1, 0), RING, (1, 0, 2), "xx"), ((1, 0, 2), RING, (1, 0, 2), "xxx"),
                ((2, 0, 1), RING_AND_SWAP, (1, 2, 0), "y"), ((2, 1, 0), RING_AND_SWAP, (0, 2, 1), "y")):
            self.assert_told(wanted, turned_stand, puzzle, stand, word)

    def test_the_words_deed_then_the_stand_as_a_deed_then_the_back(self):
        for puzzle in helper.few_puzzles() + [SQUARE, EVEN]:
            for stand in some_stands(puzzle, 17):
                for word in short_words(puzzle)[::2]:
                    wanted = helper.turned_plainly(puzzle, stand, word)
                    self.assert_told(wanted, turned_stand, puzzle, stand, word)

    def test_the_stand_of_a_word_turned_is_that_of_the_word_turned_by_the_other(self):
        for puzzle in helper.few_puzzles():
            for word in short_words(puzzle)[::2]:
                for other in short_words(puzzle)[1::3]:
                    wanted = deed_of(puzzle, turned(puzzle, word, other))
                    self.assert_told(wanted, turned_stand, puzzle, deed_of(puzzle, word), other)

    def test_a_stand_that_is_not_come_to_and_words_somewhat_beyond_six_letters(self):
        self.assert_told((1, 0), turned_stand, ((0, 1),), (1, 0), "xX")
        self.assert_told((0, 2, 1), turned_stand, RING, (1, 0, 2), "x" * 13)

    def test_the_order_of_refusals(self):
        self.assert_refused(NoPuzzle, turned_stand, None, None, None)
        self.assert_refused(NoStand, turned_stand, RING, "x", (0, 1, 2))
        self.assert_refused(NoStand, turned_stand, RING, (0, 1), "y")
        self.assert_refused(NoWord, turned_stand, RING, (0, 1, 2), "y")


class Lots(helper.Case):

    def test_some_lots(self):
        for wanted, puzzle, stand in (
                ([(0,)], ONE_PLACE, (0,)), ([(0,)], ONE_PLACE_THRICE, (0,)), ([(0, 1)], ((1, 0),), (0, 1)),
                ([(1, 0)], ((1, 0),), (1, 0)), ([(1, 0)], ((0, 1),), (1, 0)), ([(1, 2, 0)], RING, (1, 2, 0)),
                ([(0, 2, 1), (1, 0, 2), (2, 1, 0)], RING, (2, 1, 0)), ([(1, 0, 2)], STILL, (1, 0, 2)),
                ([(1, 2, 0), (2, 0, 1)], RING_AND_SWAP, (2, 0, 1)), ([(0, 1, 2)], RING_AND_SWAP, (0, 1, 2)),
                ([(0, 2, 1), (1, 0, 2), (2, 1, 0)], RING_AND_SWAP, (0, 2, 1)), ([(2, 3, 0, 1)], SQUARE, (2, 3, 0, 1)),
                ([(1, 2, 3, 0), (3, 0, 1, 2)], SQUARE, (1, 2, 3, 0)),
                ([(1, 0, 3, 2), (3, 2, 1, 0)], SQUARE, (1, 0, 3, 2)),
                ([(0, 3, 2, 1), (2, 1, 0, 3)], SQUARE, (2, 1, 0, 3))):
            self.assert_told(wanted, lot, puzzle, stand)

    def test_all_that_come_of_a_stand_by_one_letter_after_the_other(self):
        for puzzle in helper.few_puzzles() + [SQUARE, EVEN, SWAPS, SIX_STANDS]:
            for stand in some_stands(puzzle, 13):
                self.assert_told(lot_by(puzzle, stand), lot, puzzle, stand)

    def test_all_stands_of_puzzles_of_few_places(self):
        for puzzle in helper.some_of([one for one in helper.sample_puzzles() if len(one[0]) < 5], 5):
            for stand in helper.all_deeds(len(puzzle[0])):
                self.assert_told(lot_by(puzzle, stand), lot, puzzle, stand)

    def test_five_places_all_come_to(self):
        lots = {tuple(self.ask(lot, FIVE, stand)) for stand in helper.all_deeds(5)}
        self.assertEqual(sorted(map(len, lots)), [1, 10, 15, 20, 20, 24, 30])
        lots = {tuple(self.ask(lot, EVEN, stand)) for stand in reached(EVEN)}
        self.assertEqual(sorted(map(len, lots)), [1, 12, 12, 15, 20])

    def test_the_number_of_stands_of_a_lot_divides_that_of_all_that_are_come_to(self):
        for puzzle in helper.few_puzzles() + [SQUARE, EVEN]:
            for stand in some_stands(puzzle, 13):
                self.assertEqual(len(reached(puzzle)) % len(self.ask(lot, puzzle, stand)), 0)

    def test_each_stand_of_a_lot_has_the_same_lot_and_the_same_rings(self):
        for puzzle in helper.few_puzzles():
            for stand in some_stands(puzzle, 37):
                told = self.ask(lot, puzzle, stand)
                self.assertIn(stand, told)
                for other in told[::7]:
                    self.assert_told(told, lot, puzzle, other)
                    self.assertEqual(rings((other,), "x"), rings((stand,), "x"))


class TurningWords(helper.Case):

    def test_some_words(self):
        for wanted, puzzle, stand, other in (
                ("", ONE_PLACE, (0,), (0,)), ("", RING, (1, 0, 2), (1, 0, 2)), (None, RING, (0, 1, 2), (1, 2, 0)),
                ("X", RING, (1, 0, 2), (2, 1, 0)), ("x", RING, (1, 0, 2), (0, 2, 1)),
                (None, RING, (1, 2, 0), (2, 0, 1)),
                ("Y", RING_AND_SWAP, (1, 2, 0), (2, 0, 1)), ("x", RING_AND_SWAP, (1, 0, 2), (0, 2, 1)),
                ("X", RING_AND_SWAP, (2, 1, 0), (0, 2, 1)), ("Y", RING_AND_SWAP, (0, 2, 1), (2, 1, 0)),
                (None, RING_AND_SWAP, (1, 0, 2), (0, 1, 2)),
                ("", STILL, (1, 0, 2), (1, 0, 2)), (None, STILL, (1, 0, 2), (2, 1, 0)),
                (None, SWAPS, SWAPS[0], SWAPS[1]),
                ("X", SQUARE, (1, 0, 3, 2), (3, 2, 1, 0)), (None, SQUARE, (1, 0, 3, 2), (2, 1, 0, 3))):
            self.assert_told(wanted, turning_word, puzzle, stand, other)

    def test_the_first_of_all_words_in_order(self):
        for puzzle, most in ((RING, 4), (RING_AND_SWAP, 5), (SQUARE, 5), (SWAPS, 4), (STILL, 2), (SIX_STANDS, 6),
                             (((1, 0, 2), (0, 2, 1), (2, 0, 1)), 4), (((1, 0, 2, 3), (1, 2, 3, 0)), 6)):
            for stand in some_stands(puzzle, 7):
                first = {}
                for word in helper.all_words(puzzle, most):
                    first.setdefault(helper.turned_plainly(puzzle, stand, word), word)
                self.assertEqual(sorted(first), lot_by(puzzle, stand))
                for other in helper.some_of(helper.all_deeds(len(stand)), 5 if len(stand) > 4 else 1):
                    self.assert_told(first.get(other), turning_word, puzzle, stand, other)

    def test_the_least_of_the_least_words(self):
        for puzzle in helper.few_puzzles():
            found = helper.least_words(puzzle)
            for stand in some_stands(puzzle, 41):
                for other in lot_by(puzzle, stand)[::4] + some_stands(puzzle, 31):
                    fit = [word for word in found.values() if helper.turned_plainly(puzzle, stand, word) == other]
                    wanted = min(fit, key=lambda word: (len(word), word)) if fit else None
                    self.assert_told(wanted, turning_word, puzzle, stand, other)

    def test_a_word_just_where_the_other_is_of_the_lot_and_it_turns_the_one_to_it(self):
        for puzzle in helper.few_puzzles() + [SQUARE, EVEN]:
            for stand in some_stands(puzzle, 53):
                found = lot(puzzle, stand)
                for other in some_stands(puzzle, 7):
                    word = self.ask(turning_word, puzzle, stand, other)
                    self.assertEqual(word is not None, other in found)
                    if word is not None:
                        self.assert_told(other, turned_stand, puzzle, stand, word)
                        self.assert_told(word, least_word, puzzle, deed_of(puzzle, word))

    def test_each_of_both_stands_may_be_none(self):
        for thing in ((0, 1), (0, 1, 3), (0, 1, 1), (True, 0, 2), [0, 1, 2], "012", "", None, True, 0, {},
                      ((0, 1, 2),)):
            self.assert_refused(NoStand, turning_word, RING, thing, (0, 1, 2))
            self.assert_refused(NoStand, turning_word, RING, (0, 1, 2), thing)
            self.assert_refused(NoStand, turning_word, RING, thing, thing)
            self.assert_refused(NoStand, lot, RING, thing)
            self.assert_refused(NoPuzzle, turning_word, [thing], (0, 1, 2), thing)


class Exchanged(helper.Case):

    def test_some_words(self):
        for wanted, puzzle, word, other in (
                (True, ONE_PLACE, "x", "x"), (True, ONE_PLACE_THRICE, "xy", "zX"), (True, RING, "x", "xx"),
                (True, RING_AND_SWAP, "x", "X"), (False, RING_AND_SWAP, "x", "y"), (False, RING_AND_SWAP, "y", "x"),
                (True, RING_AND_SWAP, "", "y"), (True, RING_AND_SWAP, "y", ""), (True, RING_AND_SWAP, "x", "yy"),
                (False, RING_AND_SWAP, "xy", "yx"), (True, SWAPS, "x", "y"), (True, SWAPS, "xY", "YX"),
                (False, SQUARE, "x", "y"), (True, SQUARE, "xx", "y"), (True, SQUARE, "y", "XX"),
                (False, FIVE, "x", "y"), (True, FIVE, "x", "yyyyy"), (False, FIVE, "x", "yxY"),
                (True, FIVE, "x", "yyxYY")):
            self.assert_told(wanted, can_exchange, puzzle, word, other)

    def test_all_short_words(self):
        met = [0, 0]
        for puzzle in helper.few_puzzles() + [SQUARE, SWAPS]:
            start = helper.start_of(puzzle)
            for word in short_words(puzzle)[::2]:
                for other in short_words(puzzle)[::3]:
                    wanted = helper.walk(puzzle, start, word + other) == helper.walk(puzzle, start, other + word)
                    met[wanted] += 1
                    self.assert_told(wanted, can_exchange, puzzle, word, other)
        self.assertGreater(min(met), 50)

    def test_where_they_can_the_exchange_moves_nothing_and_the_one_turned_is_as_before(self):
        for puzzle in helper.few_puzzles():
            for word in short_words(puzzle)[1::2]:
                for other in short_words(puzzle)[2::5]:
                    told = self.ask(can_exchange, puzzle, word, other)
                    self.assertEqual(moved(puzzle, exchange(puzzle, word, other)) == [], told)
                    one = deed_of(puzzle, word)
                    self.assertEqual(turned_stand(puzzle, one, other) == one, told)

    def test_each_of_both_words_may_be_none(self):
        for word in ("y", "xY", "z", "w", " ", "x ", None, 0, True, [], ("x",), ["x"], {"x": "x"}):
            self.assert_refused(NoWord, can_exchange, RING, word, "x")
            self.assert_refused(NoWord, can_exchange, RING, "x", word)
            self.assert_refused(NoWord, can_exchange, RING, word, word)


class Middles(helper.Case):

    def test_some_puzzles(self):
        for wanted, puzzle in (
                ([(0,)], ONE_PLACE), ([(0,)], ONE_PLACE_THRICE), ([(0, 1)], ((0, 1),)), ([(0, 1), (1, 0)], ((1, 0),)),
                ([(0, 1, 2)], STILL), ([(0, 1, 2), (1, 2, 0), (2, 0, 1)], RING), ([(0, 1, 2)], RING_AND_SWAP),
                ([(0, 1, 2, 3), (2, 3, 0, 1)], SQUARE), ([(0, 1, 2, 3)], ((1, 0, 2, 3), (1, 2, 3, 0))),
                ([(0, 1, 2, 3), (1, 0, 3, 2), (2, 3, 0, 1), (3, 2, 1, 0)], SWAPS), ([(0, 1, 2, 3, 4)], FIVE),
                ([(0, 1, 2, 3, 4)], EVEN),
                ([(0, 1, 2, 3, 4), (0, 1, 2, 4, 3)], ((1, 2, 0, 3, 4), (1, 0, 2, 3, 4), (0, 1, 2, 4, 3)))):
            self.assert_told(wanted, middle, puzzle)

    def test_the_stands_come_to_whose_lot_is_themselves_alone(self):
        for puzzle in helper.few_puzzles() + helper.some_of(helper.sample_puzzles(), 3):
            found = sorted(set().union(*helper.levels(puzzle)))
            self.assert_told([stand for stand in found if lot_by(puzzle, stand) == [stand]], middle, puzzle)

    def test_a_stand_of_the_middle_can_be_exchanged_with_each_word(self):
        for puzzle in helper.few_puzzles() + [SQUARE, SIX_STANDS]:
            told = self.ask(middle, puzzle)
            for stand in told:
                self.assert_told([stand], lot, puzzle, stand)
                for word in short_words(puzzle)[::3]:
                    self.assert_told(True, can_exchange, puzzle, least_word(puzzle, stand), word)
                    self.assertIn(behind(puzzle, stand, least_word(puzzle, told[-1])), told)

    def test_what_is_told_is_the_askers_own(self):
        for puzzle in (RING, SQUARE, FIVE):
            for function, handed in ((middle, (puzzle,)), (lot, (puzzle, puzzle[0]))):
                told = self.ask(function, *handed)
                kept = list(told)
                told.append("changed")
                told.reverse()
                self.assert_told(kept, function, *handed)


if __name__ == "__main__":
    unittest.main()
