"""Points 3, 4 and 6: the promise as a whole, and what one stage tells handed in to another."""

import unittest

from shortdeeds import bounds, changes, halves, little, orders, places, puzzles, steps, texts, ways
from shortdeeds.desk import Desk
from tests import helper
from tests.helper import FIVE, ONE_PLACE, RING_AND_SWAP

SQUARE = ((1, 2, 3, 0), (1, 0, 3, 2))


def some_puzzles():
    return helper.few_puzzles() + [ONE_PLACE, RING_AND_SWAP, SQUARE]


class Promise(helper.Case):

    def test_no_shorter_word_than_the_least_one_as_papers_and_nets_show(self):
        for puzzle in some_puzzles():
            paper = self.ask(bounds.height_paper, puzzle)
            self.assert_told(True, bounds.is_height_paper, paper, puzzle)
            for stand in helper.some_of(ways.reached(puzzle), 17) + [ways.farthest(puzzle)]:
                word = self.ask(ways.least_word, puzzle, stand)
                self.assert_told(stand, puzzles.deed_of, puzzle, word)
                self.assertEqual(len(word), paper[stand])
                if 1 <= len(word) <= 9:
                    here, there = len(word) // 2, (len(word) - 1) // 2
                    nets = self.ask(halves.net_paper, puzzle, stand, here, there)
                    self.assert_told(len(word) - 1, halves.net_bound, nets, puzzle, stand)

    def test_bounds_are_no_greater_than_how_far_a_stand_is(self):
        for puzzle in some_puzzles():
            stand = ways.farthest(puzzle)
            self.assertLessEqual(bounds.count_bound(puzzle), ways.far(puzzle, stand))
            self.assertLessEqual(bounds.moved_bound(puzzle, stand), ways.far(puzzle, stand))
            self.assert_told(False, bounds.is_barred, puzzle, stand)

    def test_any_stand_come_to_is_led_home_by_words_learned_for_the_places(self):
        for puzzle in some_puzzles():
            table = self.ask(steps.step_table, puzzle)
            for stand in helper.some_of(ways.reached(puzzle), 13):
                word = self.ask(steps.led_home, puzzle, table, stand)
                self.assert_told(puzzles.home(puzzle), puzzles.behind, puzzle, stand, word)
                self.assertLessEqual(ways.far(puzzle, stand), len(word))

    def test_whoever_made_a_paper_one_sees_it_by_going_along_the_letters(self):
        for puzzle in some_puzzles():
            levels = helper.levels(puzzle)
            for most in range(len(levels)):
                paper = {stand: min(at, most) for at, level in enumerate(levels) for stand in level}
                self.assert_told(True, bounds.is_height_paper, paper, puzzle)
                paper[ways.farthest(puzzle)] += 2
                along = all(abs(paper[helper.move(puzzle, stand, letter)] - paper[stand]) <= 1
                            for stand in paper for letter in helper.letters(puzzle))
                wanted = along and paper[helper.start_of(puzzle)] == 0
                self.assert_told(wanted, bounds.is_height_paper, paper, puzzle)


class Together(helper.Case):

    def test_changed_puzzles_are_puzzles_of_each_stage(self):
        for puzzle in some_puzzles():
            names = helper.all_deeds(len(puzzle[0]))[-1]
            found = [self.ask(changes.renamed, puzzle, names), self.ask(changes.of_words, puzzle, ["xX", "x"])]
            if len(puzzle) < 3:
                found.append(self.ask(changes.with_deed, puzzle, names))
            if len(puzzle) < 3 and len(puzzle[0]) < 5:
                found.append(self.ask(changes.beside, puzzle, ONE_PLACE))
            for told in found:
                self.assert_told(helper.least_words(told), ways.words, told)
                self.assert_told(told, texts.read, self.ask(texts.show, told))
                self.assert_told(helper.table_of_steps(told), steps.step_table, told)
                many = len(ways.reached(told))
                self.assertEqual(many % len(places.keepers(told, 0)), 0)
                self.assertEqual(many % len(orders.middle(told)), 0)
                desk = Desk()
                desk.say("puzzle " + texts.show(told))
                self.assertEqual(desk.say("many"), str(many))

    def test_words_and_stands_that_were_told_are_handed_in_again(self):
        for puzzle in some_puzzles():
            stand = ways.farthest(puzzle)
            word = ways.least_word(puzzle, stand)
            turned = self.ask(little.turned, puzzle, word, word + "xX")
            self.assert_told(orders.order(puzzle, word), orders.order, puzzle, turned)
            other = self.ask(orders.turned_stand, puzzle, stand, turned)
            turning = self.ask(orders.turning_word, puzzle, stand, other)
            self.assert_told(other, orders.turned_stand, puzzle, stand, turning)
            self.assertEqual(orders.lot(puzzle, other), orders.lot(puzzle, stand))
            power = self.ask(orders.power, puzzle, turned, 10 ** 29 + 7)
            self.assertIn(power, ways.reached(puzzle))
            self.assert_told(True, orders.can_exchange, puzzle, ways.least_word(puzzle, power), turned)

    def test_a_stand_of_a_puzzle_is_a_deed_of_its_places(self):
        for stand in helper.some_of(helper.all_deeds(5), 23):
            self.assert_told((*FIVE, stand), changes.with_deed, FIVE, stand)
            self.assert_told(True, puzzles.is_puzzle, self.ask(changes.renamed, FIVE, stand))


if __name__ == "__main__":
    unittest.main()
