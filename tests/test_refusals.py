"""Points 3 to 5: what is refused and in which order, and that nothing else is changed."""

import unittest

from shortdeeds import puzzles, texts, ways
from shortdeeds.errors import NoPuzzle, NoStand, NoText, NoWord
from tests import helper
from tests.helper import FIVE, ONE_PLACE, RING, RING_AND_SWAP

# What each function is handed: p a puzzle, s a stand, w a word, t a thing of whatever kind.
KINDS = (
    (puzzles.is_stand, "tp"), (puzzles.is_word, "tp"), (puzzles.home, "p"), (puzzles.behind, "psw"),
    (puzzles.deed_of, "pw"), (puzzles.back_of, "pw"), (puzzles.plain, "pw"), (texts.show, "p"),
    (ways.reached, "p"), (ways.least_word, "ps"), (ways.far, "ps"), (ways.counts, "p"), (ways.farthest, "p"),
    (ways.words, "p"),
)
REFUSALS = {"s": NoStand, "w": NoWord}


def good(kind, puzzle):
    return {"p": puzzle, "s": puzzle[0], "w": "xX", "t": "x"}[kind]


def bad(kind, puzzle):
    return {"s": helper.no_stands, "w": helper.no_words}[kind](puzzle)


def few_bad(kind, puzzle):
    return bad(kind, puzzle)[::17]


class NoPuzzles(helper.Case):

    def test_each_function_refuses_what_is_no_puzzle(self):
        for function, kinds in KINDS:
            for thing in helper.no_puzzles():
                handed = [thing if kind == "p" else good(kind, RING) for kind in kinds]
                self.assert_refused(NoPuzzle, function, *handed)

    def test_ahead_of_all_else(self):
        for function, kinds in KINDS:
            for thing in helper.no_puzzles()[::3]:
                for other in (None, True, [], {}, "?", (True, False), thing):
                    self.assert_refused(NoPuzzle, function, *[thing if kind == "p" else other for kind in kinds])

    def test_where_one_wrong_thing_stands_beside_a_right_one(self):
        self.assert_refused(NoPuzzle, puzzles.behind, None, (0, 1), "?")
        self.assert_refused(NoPuzzle, puzzles.behind, ((1, 0), (0,)), (0, 0), "x")
        self.assert_refused(NoPuzzle, puzzles.is_stand, RING, (1, 2, 0))
        self.assert_refused(NoPuzzle, puzzles.is_word, RING, "x")

    def test_truths_behind_the_same_puzzle_of_numbers(self):
        for function, kinds in KINDS:
            for puzzle, false in ((((1, 0),), ((True, False),)), (((0,),), ((False,),)), (((0, 1),), ((0, True),)),
                                  (RING_AND_SWAP, ((1, 2, 0), (True, 0, 2)))):
                right = [good(kind, puzzle) for kind in kinds]
                wrong = [false if kind == "p" else good(kind, puzzle) for kind in kinds]
                told = self.ask(function, *right)
                self.assert_refused(NoPuzzle, function, *wrong)
                self.assert_told(told, function, *right)


class NoStandsAndNoWords(helper.Case):

    def test_each_function_refuses_what_is_no_stand_and_what_is_no_word(self):
        for puzzle in (ONE_PLACE, RING, RING_AND_SWAP, ((1, 0),) * 3, FIVE):
            for function, kinds in KINDS:
                for at, kind in enumerate(kinds):
                    if kind in "pt":
                        continue
                    for thing in bad(kind, puzzle):
                        handed = [good(told, puzzle) for told in kinds]
                        handed[at] = thing
                        self.assert_refused(REFUSALS[kind], function, *handed)

    def test_from_the_left(self):
        for puzzle in (ONE_PLACE, RING_AND_SWAP, FIVE):
            for stand in few_bad("s", puzzle):
                for word in few_bad("w", puzzle):
                    self.assert_refused(NoStand, puzzles.behind, puzzle, stand, word)
        self.assert_refused(NoStand, puzzles.behind, RING, "x", (1, 2, 0))
        self.assert_refused(NoWord, puzzles.behind, RING, (1, 0, 2), (1, 2, 0))

    def test_truths_behind_the_same_stand_of_numbers(self):
        for function in (ways.least_word, ways.far):
            told = self.ask(function, RING_AND_SWAP, (1, 0, 2))
            self.assert_refused(NoStand, function, RING_AND_SWAP, (True, False, 2))
            self.assert_told(told, function, RING_AND_SWAP, (1, 0, 2))

    def test_a_stand_that_is_not_come_to_is_not_refused(self):
        self.assert_told((1, 0, 2), puzzles.behind, RING, (1, 0, 2), "")
        self.assert_told(None, ways.least_word, RING, (1, 0, 2))

    def test_letters_of_deeds_that_the_puzzle_does_not_have(self):
        for function in (puzzles.deed_of, puzzles.back_of, puzzles.plain):
            for puzzle, word in ((RING, "y"), (RING, "Y"), (RING, "xyY"), (RING_AND_SWAP, "z"), (RING_AND_SWAP, "xZ")):
                self.assert_refused(NoWord, function, puzzle, word)


class NothingIsChanged(helper.Case):

    def all_answers(self, puzzle):
        stand = puzzle[0]
        return [puzzles.home(puzzle), puzzles.behind(puzzle, stand, "xX"), puzzles.deed_of(puzzle, "x"),
                puzzles.back_of(puzzle, "xx"), puzzles.plain(puzzle, "xxX"), texts.show(puzzle),
                texts.read(texts.show(puzzle)), ways.reached(puzzle), ways.least_word(puzzle, stand),
                ways.far(puzzle, stand), ways.counts(puzzle), ways.farthest(puzzle), ways.words(puzzle)]

    def test_told_lists_and_dicts_are_the_askers_own(self):
        for puzzle in helper.few_puzzles():
            wanted = self.all_answers(puzzle)
            stands, many, told = ways.reached(puzzle), ways.counts(puzzle), ways.words(puzzle)
            stands.reverse()
            stands.append((9, 9))
            many[0] = 77
            many.append(5)
            for stand in list(told):
                told[stand] = "changed"
            told[(9, 9)] = "new"
            self.assert_same(self.all_answers(puzzle), wanted, puzzle)
            ways.reached(puzzle).clear()
            ways.counts(puzzle).clear()
            ways.words(puzzle).clear()
            self.assert_same(self.all_answers(puzzle), wanted, puzzle)

    def test_told_lists_and_dicts_are_new_each_time(self):
        for function in (ways.reached, ways.counts, ways.words):
            self.assertIsNot(function(FIVE), function(FIVE))

    def test_a_told_list_stays_as_it_was_when_another_is_asked_for(self):
        for function in (ways.reached, ways.counts, ways.words):
            told = function(RING_AND_SWAP)
            wanted = function(RING_AND_SWAP)
            for puzzle in helper.few_puzzles():
                function(puzzle)
            self.assert_same(told, wanted)

    def test_the_same_asked_again_has_the_same_answer(self):
        rows = helper.few_puzzles()
        first = [self.all_answers(puzzle) for puzzle in rows]
        again = [self.all_answers(puzzle) for puzzle in reversed(rows)]
        self.assert_same(again[::-1], first)

    def test_refusals_change_no_later_answer(self):
        wanted = self.all_answers(FIVE)
        for function, kinds in KINDS:
            self.assert_refused(NoPuzzle, function, *[[FIVE] for _ in kinds])
        self.assert_refused(NoText, texts.read, "10234 12340 x")
        self.assert_same(self.all_answers(FIVE), wanted)

    def test_what_is_handed_in_may_be_changed_later(self):
        thing = [(1, 0)]
        self.assert_told(False, puzzles.is_puzzle, thing)
        thing.append((0, 1))
        self.assert_told(False, puzzles.is_puzzle, thing)
        self.assert_told(True, puzzles.is_puzzle, tuple(thing))


if __name__ == "__main__":
    unittest.main()
