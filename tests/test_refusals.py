"""Points 3 to 5: what is refused and in which order, and that nothing else is changed."""

import copy
import itertools
import unittest

from shortdeeds import bounds, changes, halves, little, orders, places, puzzles, steps, texts, ways
from shortdeeds.errors import NoDeed, NoNumber, NoPuzzle, NoStand, NoTable, NoText, NoWord, TooMany
from tests import helper
from tests.helper import FIVE, ONE_PLACE, RING, RING_AND_SWAP

# What each function is handed: p a puzzle, o another one, s a stand, w a word, b a step table,
# d a deed, r a list of words, t a thing of whatever kind, l a place, k a deed's number, n a whole
# number from 0 on, 4, 5 and 9 one from 0 to so many.
KINDS = (
    (puzzles.is_stand, "tp"), (puzzles.is_word, "tp"), (puzzles.home, "p"), (puzzles.behind, "psw"),
    (puzzles.deed_of, "pw"), (puzzles.back_of, "pw"), (puzzles.plain, "pw"), (texts.show, "p"),
    (ways.reached, "p"), (ways.least_word, "ps"), (ways.far, "ps"), (ways.counts, "p"), (ways.farthest, "p"),
    (ways.words, "p"),
    (bounds.is_height_paper, "tp"), (bounds.height_paper, "p"), (bounds.plain_many, "p9"), (bounds.count_bound, "p"),
    (bounds.sign, "ps"), (bounds.signs, "p"), (bounds.is_barred, "ps"), (bounds.moved_bound, "ps"),
    (halves.halves, "ps4"), (halves.met_word, "ps4"), (halves.net_bound, "tps"), (halves.net_paper, "ps44"),
    (little.moved, "pw"), (little.exchange, "pww"), (little.turned, "pww"), (little.rings, "pw"),
    (little.little_word, "p55"), (little.learned, "p5"),
    (steps.step_places, "p"), (steps.is_step_table, "tp"), (steps.step_table, "p"), (steps.led_home, "pbs"),
    (steps.most_letters, "pb"),
    (orders.order, "pw"), (orders.power, "pwn"), (orders.turned_stand, "psw"), (orders.lot, "ps"),
    (orders.turning_word, "pss"), (orders.can_exchange, "pww"), (orders.middle, "p"),
    (places.place_lots, "p"), (places.is_held_parting, "tp"), (places.held_partings, "p"), (places.joining, "pll"),
    (places.keepers, "pl"),
    (changes.renamed, "pd"), (changes.with_deed, "pd"), (changes.without, "pk"), (changes.beside, "po"),
    (changes.of_words, "pr"),
)
NUMBERS = "459lkn"
REFUSALS = {"o": NoPuzzle, "s": NoStand, "w": NoWord, "b": NoTable, "d": NoDeed, "r": NoWord,
            **dict.fromkeys(NUMBERS, NoNumber)}
# Those whose answers are lists or dicts, or have such within.
LISTS = (ways.reached, ways.counts, ways.words, bounds.height_paper, halves.halves, little.moved, little.learned,
         steps.step_places, steps.step_table, orders.lot, orders.middle, places.place_lots, places.held_partings,
         places.keepers)


def most_of(kind, puzzle):
    """The greatest number of the kind that may be handed in."""
    if kind == "l":
        return len(puzzle[0]) - 1
    if kind == "k":
        return len(puzzle) - 1
    return 10 ** 30 - 1 if kind == "n" else int(kind)


def good(kind, puzzle):
    if kind in NUMBERS:
        return min(1, most_of(kind, puzzle))
    if kind == "b":
        return helper.table_of_steps(puzzle)
    return {"p": puzzle, "o": ONE_PLACE, "s": puzzle[0], "w": "xX", "d": puzzle[0], "r": ["xX", "x"], "t": "x"}[kind]


def bad(kind, puzzle):
    if kind == "n":
        return [thing for thing in helper.no_numbers(0) if type(thing) is not int or thing < 0]
    if kind in NUMBERS:
        return helper.no_numbers(most_of(kind, puzzle))
    if kind == "o":
        return helper.no_puzzles()
    return {"s": helper.no_stands, "w": helper.no_words, "b": helper.no_tables, "d": helper.no_stands,
            "r": helper.no_word_lists}[kind](puzzle)


def fits(function, puzzle):
    """Whether the puzzle is neither too great nor too small for what the function makes of it."""
    if function is changes.beside:
        return len(puzzle) < 3 and len(puzzle[0]) < 5
    if function is changes.with_deed:
        return len(puzzle) < 3
    return function is not changes.without or len(puzzle) > 1


def fitting(puzzle):
    return [(function, kinds) for function, kinds in KINDS if fits(function, puzzle)]


def few_bad(kind, puzzle):
    found = bad(kind, puzzle)
    return found[::1 + len(found) // 9]


def boxes(thing):
    """The lists and dicts of an answer, those within it, too."""
    if isinstance(thing, (list, tuple)):
        within = list(thing)
    else:
        within = list(thing.values()) if isinstance(thing, dict) else []
    found = [box for one in within for box in boxes(one)]
    return found + [thing] if isinstance(thing, (list, dict)) else found


def spoil(thing):
    """Change all lists and dicts of an answer."""
    for box in boxes(thing):
        if isinstance(box, list):
            box.reverse()
            box[:1] = ["changed", (9, 9)]
        else:
            for key in list(box):
                box[key] = "changed"
            box[(9, 9)] = "new"


class NoPuzzles(helper.Case):

    def test_each_function_refuses_what_is_no_puzzle(self):
        for function, kinds in KINDS:
            for thing in helper.no_puzzles():
                handed = [thing if kind == "p" else good(kind, RING) for kind in kinds]
                self.assert_refused(NoPuzzle, function, *handed)

    def test_ahead_of_all_else(self):
        for function, kinds in KINDS:
            for thing in helper.no_puzzles()[::3]:
                for other in (None, True, [], {}, "?", (True, False), thing):
                    self.assert_refused(NoPuzzle, function, *[thing if kind == "p" else other for kind in kinds])

    def test_where_one_wrong_thing_stands_beside_a_right_one(self):
        self.assert_refused(NoPuzzle, puzzles.behind, None, (0, 1), "?")
        self.assert_refused(NoPuzzle, puzzles.behind, ((1, 0), (0,)), (0, 0), "x")
        self.assert_refused(NoPuzzle, puzzles.is_stand, RING, (1, 2, 0))
        self.assert_refused(NoPuzzle, puzzles.is_word, RING, "x")

    def test_truths_behind_the_same_puzzle_of_numbers(self):
        for function, kinds in KINDS:
            for puzzle, false in ((((1, 0),), ((True, False),)), (((0,),), ((False,),)), (((0, 1),), ((0, True),)),
                                  (RING_AND_SWAP, ((1, 2, 0), (True, 0, 2)))):
                if not fits(function, puzzle):
                    continue
                right = [good(kind, puzzle) for kind in kinds]
                wrong = [false if kind == "p" else good(kind, puzzle) for kind in kinds]
                told = self.ask(function, *right)
                self.assert_refused(NoPuzzle, function, *wrong)
                self.assert_told(told, function, *right)


class NoStandsNoWordsNoNumbersNoTables(helper.Case):

    def test_each_function_refuses_what_is_none(self):
        for puzzle in (ONE_PLACE, RING, RING_AND_SWAP, ((1, 0),) * 3, FIVE):
            for function, kinds in KINDS:
                for at, kind in enumerate(kinds):
                    if kind in "pt":
                        continue
                    for thing in helper.some_of(bad(kind, puzzle), 9 if kind == "b" else 1):
                        handed = [good(told, puzzle) for told in kinds]
                        handed[at] = thing
                        self.assert_refused(REFUSALS[kind], function, *handed)

    def test_from_the_left(self):
        for puzzle in (ONE_PLACE, RING_AND_SWAP, FIVE):
            for function, kinds in KINDS:
                wrong = [at for at, kind in enumerate(kinds) if kind not in "pt"]
                for first, other in itertools.combinations(wrong, 2):
                    for thing in few_bad(kinds[first], puzzle):
                        for behind in few_bad(kinds[other], puzzle):
                            handed = [good(told, puzzle) for told in kinds]
                            handed[first], handed[other] = thing, behind
                            self.assert_refused(REFUSALS[kinds[first]], function, *handed)
        self.assert_refused(NoStand, puzzles.behind, RING, "x", (1, 2, 0))
        self.assert_refused(NoWord, puzzles.behind, RING, (1, 0, 2), (1, 2, 0))
        self.assert_refused(NoStand, halves.halves, RING, 1, (1, 2, 0))
        self.assert_refused(NoStand, halves.net_paper, RING, None, None, None)
        self.assert_refused(NoNumber, halves.net_paper, RING, (1, 2, 0), 5, None)
        self.assert_refused(NoTable, steps.led_home, RING, (1, 2, 0), steps.step_table(RING))

    def test_all_of_them_wrong(self):
        for puzzle in (ONE_PLACE, RING_AND_SWAP, FIVE):
            for function, kinds in KINDS:
                wrong = [kind for kind in kinds if kind not in "pt"]
                for thing in (None, True, False, [], {}, (), "?", -1, 10, ((0,),), [{}], {"x": 1}):
                    # One puzzle of one place is a puzzle, so it is not wrong beside another one.
                    if wrong and (wrong[0] != "o" or thing != ONE_PLACE):
                        handed = [puzzle if kind == "p" else thing for kind in kinds]
                        self.assert_refused(REFUSALS[wrong[0]], function, *handed)

    def test_numbers_at_the_ends(self):
        for puzzle in (ONE_PLACE, RING_AND_SWAP, FIVE):
            for function, kinds in fitting(puzzle):
                for at, kind in enumerate(kinds):
                    if kind not in NUMBERS:
                        continue
                    for number in (*range(-3, 13), -(10 ** 29), 10 ** 30 - 1):
                        handed = [good(told, puzzle) for told in kinds]
                        handed[at] = number
                        if 0 <= number <= most_of(kind, puzzle):
                            self.ask(function, *handed)
                        else:
                            self.assert_refused(NoNumber, function, *handed)

    def test_truths_behind_the_same_number(self):
        for function, kinds in KINDS:
            for at, kind in enumerate(kinds):
                if kind not in NUMBERS:
                    continue
                for number in (0, 1):
                    handed = [good(told, FIVE) for told in kinds]
                    handed[at] = number
                    told = self.ask(function, *handed)
                    handed[at] = bool(number)
                    self.assert_refused(NoNumber, function, *handed)
                    handed[at] = number
                    self.assert_told(told, function, *handed)

    def test_nothing_is_raised_for_a_thing_of_whatever_kind(self):
        for puzzle in (ONE_PLACE, RING, RING_AND_SWAP, FIVE):
            papers = [bounds.height_paper(puzzle), halves.net_paper(puzzle, puzzle[0][::-1], 0, 0),
                      steps.step_table(puzzle), halves.halves(puzzle, puzzle[0], 2), places.place_lots(puzzle),
                      places.held_partings(puzzle), orders.lot(puzzle, puzzle[0])]
            for function, kinds in KINDS:
                if "t" not in kinds:
                    continue
                boxed = [papers, tuple(papers), dict(enumerate(papers))]
                for thing in helper.things() + helper.texts() + papers + boxed:
                    told = self.ask(function, *[thing if kind == "t" else good(kind, puzzle) for kind in kinds])
                    self.assertIn(told, (True, False) if function is not halves.net_bound else (None, 0))

    def test_truths_behind_the_same_stand_or_deed_of_numbers(self):
        for function, kinds in KINDS:
            for at, kind in enumerate(kinds):
                if kind not in "sd":
                    continue
                handed = [good(told, RING_AND_SWAP) for told in kinds]
                handed[at] = (1, 0, 2)
                told = self.ask(function, *handed)
                for false in ((True, False, 2), (True, 0, 2), (1, False, 2)):
                    wrong = handed[:at] + [false] + handed[at + 1:]
                    self.assert_refused(REFUSALS[kind], function, *wrong)
                self.assert_told(told, function, *handed)

    def test_a_stand_that_is_not_come_to_is_not_refused(self):
        self.assert_told((1, 0, 2), puzzles.behind, RING, (1, 0, 2), "")
        for function, kinds in KINDS:
            if "s" in kinds:
                self.ask(function, *[(1, 0, 2) if kind == "s" else good(kind, RING) for kind in kinds])
        self.assert_told(None, ways.least_word, RING, (1, 0, 2))
        self.assert_told(None, halves.met_word, RING, (1, 0, 2), 4)
        self.assert_told(None, steps.led_home, RING, steps.step_table(RING), (1, 0, 2))
        self.assert_told([(0, 2, 1), (1, 0, 2), (2, 1, 0)], orders.lot, RING, (1, 0, 2))
        self.assert_told(None, orders.turning_word, RING, (1, 0, 2), (1, 2, 0))

    def test_letters_of_deeds_that_the_puzzle_does_not_have(self):
        for function, kinds in KINDS:
            for puzzle, word in ((RING, "y"), (RING, "Y"), (RING, "xyY"), (RING_AND_SWAP, "z"), (RING_AND_SWAP, "xZ")):
                if "w" in kinds:
                    handed = [word if kind == "w" else good(kind, puzzle) for kind in kinds]
                    self.assert_refused(NoWord, function, *handed)


    def test_too_many_behind_all_else(self):
        for puzzle in (((1, 0),) * 3, ((0, 1, 2, 3, 4),) * 3, (FIVE[0], FIVE[1], FIVE[0])):
            self.assert_refused(TooMany, changes.with_deed, puzzle, puzzle[0])
            self.assert_refused(TooMany, changes.beside, puzzle, ONE_PLACE)
            self.assert_refused(TooMany, changes.beside, ONE_PLACE, puzzle)
            for thing in helper.no_stands(puzzle):
                self.assert_refused(NoDeed, changes.with_deed, puzzle, thing)
            for thing in helper.no_puzzles():
                self.assert_refused(NoPuzzle, changes.with_deed, thing, puzzle[0])
                self.assert_refused(NoPuzzle, changes.beside, puzzle, thing)
                self.assert_refused(NoPuzzle, changes.beside, thing, puzzle)


class NothingIsChanged(helper.Case):

    def all_answers(self, puzzle):
        told = [self.ask(function, *[good(kind, puzzle) for kind in kinds]) for function, kinds in fitting(puzzle)]
        return told + [self.ask(texts.read, texts.show(puzzle))]

    def test_told_lists_and_dicts_are_the_askers_own(self):
        for puzzle in helper.few_puzzles():
            told = self.all_answers(puzzle)
            wanted = copy.deepcopy(told)
            for _ in range(2):
                spoil(told)
                told = self.all_answers(puzzle)
                self.assert_same(told, wanted, puzzle)

    def test_told_lists_and_dicts_are_new_each_time(self):
        for puzzle in (ONE_PLACE, RING, RING_AND_SWAP, FIVE):
            for function, kinds in fitting(puzzle):
                handed = [good(kind, puzzle) for kind in kinds]
                told = [function(*handed), function(*handed), function(*handed)]
                held = boxes(told)[:-1] + boxes(handed)[:-1]
                self.assertEqual(len({id(box) for box in held}), len(held), function.__name__)
                self.assertEqual(len(boxes(told)) > 1, function in LISTS, function.__name__)

    def test_an_answer_stays_as_it_was_when_another_is_asked_for(self):
        told = self.all_answers(RING_AND_SWAP)
        wanted = copy.deepcopy(told)
        for puzzle in helper.few_puzzles():
            self.all_answers(puzzle)
        self.assert_same(told, wanted)

    def test_the_same_asked_again_has_the_same_answer(self):
        rows = helper.few_puzzles()
        first = [self.all_answers(puzzle) for puzzle in rows]
        again = [self.all_answers(puzzle) for puzzle in reversed(rows)]
        self.assert_same(again[::-1], first)

    def test_refusals_change_no_later_answer(self):
        wanted = self.all_answers(FIVE)
        for function, kinds in KINDS:
            self.assert_refused(NoPuzzle, function, *[[FIVE] for _ in kinds])
            for at, kind in enumerate(kinds):
                if kind not in "pt":
                    handed = [good(told, FIVE) for told in kinds]
                    handed[at] = [FIVE]
                    self.assert_refused(REFUSALS[kind], function, *handed)
        self.assert_refused(NoText, texts.read, "10234 12340 x")
        self.assert_same(self.all_answers(FIVE), wanted)

    def test_what_is_handed_in_may_be_changed_later(self):
        thing = [(1, 0)]
        self.assert_told(False, puzzles.is_puzzle, thing)
        thing.append((0, 1))
        self.assert_told(False, puzzles.is_puzzle, thing)
        self.assert_told(True, puzzles.is_puzzle, tuple(thing))


if __name__ == "__main__":
    unittest.main()
