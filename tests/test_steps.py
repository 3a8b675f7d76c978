"""Points 61 to 64: step places, step tables, and stands led home by them."""

import copy
import unittest

from shortdeeds.errors import NoPuzzle, NoStand, NoTable
from shortdeeds.puzzles import behind, home
from shortdeeds.steps import is_step_table, led_home, most_letters, step_places, step_table
from shortdeeds.ways import far, reached
from tests import helper
from tests.helper import FIVE, ONE_PLACE, ONE_PLACE_THRICE, RING, RING_AND_SWAP

STILL = ((0, 1, 2), (0, 1, 2))
SIX_STANDS = ((1, 2, 0, 4, 3),)
FOUR = ((1, 0, 2, 3), (1, 2, 3, 0))
# Each of its stands has piece 0 at home, and pieces 1 and 2 only between them.
LATE = ((0, 2, 1, 3), (0, 2, 1, 3))


def led_by(puzzle, table, stand):
    """The document's words: for each piece the table's word for the place at which it lies then."""
    if stand not in set().union(*helper.levels(puzzle)):
        return None
    word = ""
    for piece, row in enumerate(table):
        word += row[helper.walk(puzzle, stand, word).index(piece)]
    return word


def some_stands(puzzle):
    return helper.some_of(helper.all_deeds(len(puzzle[0])), 11) + [helper.all_deeds(len(puzzle[0]))[-1], *puzzle]


class StepPlaces(helper.Case):

    def test_some_step_places(self):
        for wanted, puzzle in (([(0,)], ONE_PLACE), ([(0,)], ONE_PLACE_THRICE), ([(0, 1), (1,)], ((1, 0),)),
                               ([(0,), (1,)], ((0, 1),)), ([(0,), (1,), (2,)], STILL), ([(0, 1, 2), (1,), (2,)], RING),
                               ([(0, 1, 2), (1, 2), (2,)], RING_AND_SWAP), ([(0,), (1, 2), (2,), (3,)], LATE),
                               ([(0, 1, 2), (1,), (2,), (3, 4), (4,)], SIX_STANDS),
                               ([(0, 2), (1, 3), (2,), (3,)], ((2, 1, 0, 3), (0, 3, 2, 1))),
                               ([(0, 1, 2, 3, 4), (1, 2, 3, 4), (2, 3, 4), (3, 4), (4,)], FIVE),
                               ([(0, 1, 2, 3, 4), (1, 2, 3, 4), (2, 3, 4), (3,), (4,)],
                                ((1, 2, 0, 3, 4), (0, 1, 3, 4, 2)))):
            self.assert_told(wanted, step_places, puzzle)

    def test_where_the_piece_lies_in_stands_with_all_lesser_pieces_at_home(self):
        for puzzle in helper.sample_puzzles():
            self.assert_told(helper.places_of_steps(puzzle), step_places, puzzle)

    def test_the_stands_come_to_are_as_many_as_all_the_numbers_multiplied(self):
        for puzzle in helper.sample_puzzles():
            many = 1
            for places in self.ask(step_places, puzzle):
                many *= len(places)
            self.assertEqual(many, len(reached(puzzle)))

    def test_what_is_told_is_the_askers_own(self):
        for puzzle in helper.few_puzzles():
            told = self.ask(step_places, puzzle)
            told.append(())
            told[0] = "changed"
            self.assert_told(helper.places_of_steps(puzzle), step_places, puzzle)


class StepTables(helper.Case):

    def test_some_least_tables(self):
        for wanted, puzzle in (([{0: ""}], ONE_PLACE), ([{0: ""}], ONE_PLACE_THRICE), ([{0: ""}, {1: ""}], ((0, 1),)),
                               ([{0: "", 1: "X"}, {1: ""}], ((1, 0),)), ([{0: ""}, {1: ""}, {2: ""}], STILL),
                               ([{0: "", 1: "x", 2: "X"}, {1: ""}, {2: ""}], RING),
                               ([{0: "", 1: "Y", 2: "X"}, {1: "", 2: "XY"}, {2: ""}], RING_AND_SWAP),
                               ([{0: ""}, {1: "", 2: "X"}, {2: ""}, {3: ""}], LATE),
                               ([{0: "", 1: "x", 2: "X"}, {1: ""}, {2: ""}, {3: "", 4: "XXX"}, {4: ""}], SIX_STANDS)):
            self.assert_told(wanted, step_table, puzzle)
            self.assert_told(True, is_step_table, wanted, puzzle)

    def test_each_word_is_the_least_one(self):
        for puzzle in helper.sample_puzzles()[::2] + helper.few_puzzles():
            self.assert_told(helper.table_of_steps(puzzle), step_table, puzzle)

    def test_the_first_of_all_words_in_order(self):
        for puzzle, most in ((RING, 4), (RING_AND_SWAP, 4), (FOUR, 6), (SIX_STANDS, 6), (STILL, 2),
                             (((1, 2, 0, 3), (1, 0, 3, 2)), 5)):
            table = [{} for _ in puzzle[0]]
            for word in helper.all_words(puzzle, most):
                deed = helper.walk(puzzle, helper.start_of(puzzle), word)
                for piece, row in enumerate(table):
                    if helper.keeps(deed, piece):
                        row.setdefault(deed[piece], word)
            self.assert_told(table, step_table, puzzle)

    def test_behind_a_word_the_piece_comes_home_and_all_lesser_ones_stay(self):
        for puzzle in helper.few_puzzles():
            table = self.ask(step_table, puzzle)
            for stand in helper.some_of(reached(puzzle), 3):
                for piece, row in enumerate(table):
                    if helper.keeps(stand, piece):
                        then = behind(puzzle, stand, row[stand.index(piece)])
                        self.assertTrue(helper.keeps(then, piece + 1), (puzzle, stand, piece))

    def test_step_tables_of_other_words(self):
        self.assert_told(True, is_step_table, [{0: "xX"}], ONE_PLACE)
        self.assert_told(True, is_step_table, [{0: "xyzXYZzzzzzz"}], ONE_PLACE_THRICE)
        self.assert_told(True, is_step_table, [{1: "XX", 2: "xx", 0: "xxx"}, {1: "xX"}, {2: "Xx"}], RING)
        self.assert_told(True, is_step_table, [{0: "yy", 1: "y", 2: "X"}, {1: "", 2: "yx"}, {2: "xyxy"}], RING_AND_SWAP)
        for puzzle in helper.few_puzzles():
            for table in [helper.table_of_steps(puzzle)] + helper.other_tables(puzzle):
                self.assert_told(True, is_step_table, table, puzzle)

    def test_one_place(self):
        for word in ("", "x", "X", "xxxxxxxxxxxx"):
            self.assert_told(True, is_step_table, [{0: word}], ONE_PLACE)
        for thing in ([], [{}], {0: ""}, [""], [[""]], ({0: ""},), [{0: "y"}], [{False: ""}], [{1: ""}], [{"0": ""}],
                      [{0: None}], [{0: 0}], [{0: [""]}], [{0: "", 1: ""}], [{0: ""}, {}], [{0: ""}, {0: ""}],
                      [{0: ""}, {1: ""}], [[0]], [{-1: ""}], [{0: ("x",)}], [{0: False}]):
            self.assert_told(False, is_step_table, thing, ONE_PLACE)

    def test_words_that_do_not_lead_home_from_the_place(self):
        for thing in ([{0: "", 1: "X", 2: "x"}, {1: ""}, {2: ""}], [{0: "x", 1: "x", 2: "X"}, {1: ""}, {2: ""}],
                      [{0: "", 1: "x", 2: "X"}, {1: "x"}, {2: ""}], [{0: "", 1: "x", 2: "X"}, {1: ""}, {2: "X"}],
                      [{0: "", 1: "x", 2: ""}, {1: ""}, {2: ""}]):
            self.assert_told(False, is_step_table, thing, RING)
        for word in ("x", "X", "y", "yX", "", "xY", "xy", "xyxy"):
            thing = [{0: "", 1: "Y", 2: "X"}, {1: "", 2: word}, {2: ""}]
            self.assert_told(False, is_step_table, thing, RING_AND_SWAP)

    def test_a_word_moves_a_lesser_piece_alone(self):
        puzzle = ((1, 0, 2, 3), (0, 1, 3, 2))
        self.assert_told(True, is_step_table, [{0: "", 1: "x"}, {1: ""}, {2: "", 3: "y"}, {3: ""}], puzzle)
        self.assert_told(True, is_step_table, [{0: "", 1: "xy"}, {1: ""}, {2: "", 3: "Y"}, {3: ""}], puzzle)
        self.assert_told(False, is_step_table, [{0: "", 1: "x"}, {1: ""}, {2: "", 3: "xy"}, {3: ""}], puzzle)
        self.assert_told(False, is_step_table, [{0: "", 1: "x"}, {1: ""}, {2: "x", 3: "y"}, {3: ""}], puzzle)
        self.assert_told(False, is_step_table, [{0: "", 1: "x"}, {1: ""}, {2: "", 3: "y"}, {3: "x"}], puzzle)

    def test_what_is_none(self):
        for puzzle in helper.few_puzzles() + [STILL, LATE, RING]:
            for thing in helper.some_of(helper.no_tables(puzzle), 5 if puzzle == FIVE else 2):
                self.assert_told(False, is_step_table, thing, puzzle)

    def test_a_table_of_another_puzzle(self):
        self.assert_told(False, is_step_table, self.ask(step_table, RING_AND_SWAP), RING)
        self.assert_told(False, is_step_table, self.ask(step_table, RING), RING_AND_SWAP)
        self.assert_told(False, is_step_table, self.ask(step_table, FIVE), FOUR)
        self.assert_told(True, is_step_table, self.ask(step_table, RING), ((1, 2, 0), (0, 1, 2)))

    def test_what_is_told_or_handed_in_may_be_changed(self):
        for puzzle in helper.few_puzzles():
            told = self.ask(step_table, puzzle)
            self.assert_told(True, is_step_table, told, puzzle)
            for row in told:
                row[0] = "changed"
                self.assert_told(False, is_step_table, told, puzzle)
                self.assert_refused(NoTable, most_letters, puzzle, told)
                row.clear()
            told.append({})
            self.assert_told(False, is_step_table, told, puzzle)
            self.assert_told(helper.table_of_steps(puzzle), step_table, puzzle)

    def test_no_two_dicts_of_a_table_are_one(self):
        for puzzle in helper.few_puzzles():
            told = self.ask(step_table, puzzle) + self.ask(step_table, puzzle)
            self.assertEqual(len({id(row) for row in told}), len(told))


class LedHome(helper.Case):

    def test_some_stands(self):
        table = [{0: "", 1: "Y", 2: "X"}, {1: "", 2: "XY"}, {2: ""}]
        for wanted, stand in (("", (0, 1, 2)), ("XY", (0, 2, 1)), ("Y", (1, 0, 2)), ("X", (1, 2, 0)),
                              ("YXY", (2, 0, 1)), ("XXY", (2, 1, 0))):
            self.assert_told(wanted, led_home, RING_AND_SWAP, table, stand)
        self.assert_told(3, most_letters, RING_AND_SWAP, table)
        longer = [{0: "yY", 1: "Y", 2: "X"}, {1: "xX", 2: "XY"}, {2: "yy"}]
        for wanted, stand in (("yYxXyy", (0, 1, 2)), ("yYXYyy", (0, 2, 1)), ("YxXyy", (1, 0, 2)),
                              ("XxXyy", (1, 2, 0))):
            self.assert_told(wanted, led_home, RING_AND_SWAP, longer, stand)
        self.assert_told(6, most_letters, RING_AND_SWAP, longer)

    def test_one_place(self):
        for word in ("", "x", "xXx"):
            self.assert_told(word, led_home, ONE_PLACE, [{0: word}], (0,))
            self.assert_told(len(word), most_letters, ONE_PLACE, [{0: word}])

    def test_each_stand_by_the_least_table_and_by_others(self):
        for puzzle in helper.few_puzzles() + [SIX_STANDS, LATE, STILL]:
            for table in [helper.table_of_steps(puzzle)] + helper.other_tables(puzzle)[:2]:
                for stand in some_stands(puzzle):
                    wanted = led_by(puzzle, table, stand)
                    self.assert_told(wanted, led_home, puzzle, table, stand)
                    if wanted is not None:
                        self.assert_told(home(puzzle), behind, puzzle, stand, wanted)

    def test_none_where_the_stand_is_not_come_to(self):
        for puzzle in (RING, SIX_STANDS, STILL, LATE, ((1, 2, 3, 4, 0),), ((1, 0, 3, 2), (2, 3, 0, 1)),
                       ((1, 2, 0, 3, 4), (0, 1, 3, 4, 2)), ((0, 1),)):
            table = self.ask(step_table, puzzle)
            found = set(reached(puzzle))
            for stand in helper.all_deeds(len(puzzle[0])):
                self.assertEqual(self.ask(led_home, puzzle, table, stand) is None, stand not in found, stand)

    def test_the_most_letters_for_any_stand(self):
        for puzzle in helper.few_puzzles() + [SIX_STANDS, LATE, STILL]:
            found = sorted(set().union(*helper.levels(puzzle)))
            for table in [helper.table_of_steps(puzzle)] + helper.some_of(helper.other_tables(puzzle), 4):
                lengths = []
                for stand in found:
                    now, many = stand, 0
                    for piece, row in enumerate(table):
                        word = row[now.index(piece)]
                        now, many = helper.walk(puzzle, now, word), many + len(word)
                    lengths.append(many)
                self.assert_told(max(lengths), most_letters, puzzle, table)

    def test_led_home_by_no_more_letters_than_told_and_none_is_farther(self):
        for puzzle in helper.few_puzzles():
            table = self.ask(step_table, puzzle)
            most = self.ask(most_letters, puzzle, table)
            lengths = [len(led_home(puzzle, table, stand)) for stand in reached(puzzle)]
            self.assertEqual(max(lengths), most)
            self.assertLessEqual(max(far(puzzle, stand) for stand in helper.some_of(reached(puzzle), 3)), most)
            self.assertLessEqual(len(helper.levels(puzzle)) - 1, most)

    def test_no_table(self):
        for puzzle in (RING, RING_AND_SWAP, ONE_PLACE, SIX_STANDS):
            for thing in helper.no_tables(puzzle):
                self.assert_refused(NoTable, led_home, puzzle, thing, puzzle[0])
                self.assert_refused(NoTable, most_letters, puzzle, thing)

    def test_the_order_of_refusals(self):
        table = step_table(RING)
        self.assert_refused(NoPuzzle, led_home, None, None, None)
        self.assert_refused(NoPuzzle, led_home, [RING], table, (0, 1, 2))
        self.assert_refused(NoTable, led_home, RING, table[:2], None)
        self.assert_refused(NoTable, led_home, RING, (0, 1, 2), table)
        self.assert_refused(NoStand, led_home, RING, table, table)
        self.assert_refused(NoStand, led_home, RING, table, (True, 0, 2))
        self.assert_refused(NoPuzzle, most_letters, table, RING)
        self.assert_refused(NoTable, most_letters, RING, RING)

    def test_a_table_changed_later_is_asked_anew(self):
        table = step_table(RING_AND_SWAP)
        kept = copy.deepcopy(table)
        self.assert_told("Y", led_home, RING_AND_SWAP, table, (1, 0, 2))
        table[0][1] = "yyy"
        self.assert_told("yyy", led_home, RING_AND_SWAP, table, (1, 0, 2))
        self.assert_told(5, most_letters, RING_AND_SWAP, table)
        table[0][1] = "X"
        self.assert_refused(NoTable, led_home, RING_AND_SWAP, table, (1, 0, 2))
        self.assert_told("Y", led_home, RING_AND_SWAP, kept, (1, 0, 2))


if __name__ == "__main__":
    unittest.main()
