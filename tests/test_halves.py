"""Points 41 to 43: halves, the words that they meet in, and papers of nets."""

import itertools
import unittest

from shortdeeds.errors import NoNumber, NoStand
from shortdeeds.halves import halves, met_word, net_bound, net_paper
from shortdeeds.puzzles import home
from shortdeeds.ways import far, least_word
from tests import helper
from tests.helper import FIVE, ONE_PLACE, ONE_PLACE_THRICE, RING, RING_AND_SWAP

FOUR_RING = ((1, 2, 3, 0),)
SIX_STANDS = ((1, 2, 0, 4, 3),)
FOUR = ((1, 0, 2, 3), (1, 2, 3, 0))
H, A, B = (0, 1, 2), (1, 2, 0), (2, 0, 1)
SWAP = (1, 0, 2)


def some_stands(puzzle):
    """Home, the deeds, stands that are far, and others."""
    stands = helper.all_deeds(len(puzzle[0]))
    found = [stands[0], stands[-1], *puzzle, *helper.some_of(stands, 23), min(helper.levels(puzzle)[-1])]
    return sorted(set(found))


def least_net(puzzle, stand, number):
    return tuple(tuple(sorted(helper.ball(puzzle, stand, k))) for k in range(number + 1))


def is_net(thing, puzzle, stand):
    """The document's words for a net of a stand."""
    if type(thing) is not tuple or not thing:
        return False
    for row in thing:
        if type(row) is not tuple or not all(helper.is_in(one, helper.all_deeds(len(puzzle[0]))) for one in row):
            return False
        if list(row) != sorted(set(row)):
            return False
    return stand in thing[0] and all(helper.ball(puzzle, one, 1) <= set(later)
                                     for row, later in zip(thing, thing[1:]) for one in row)


def bound_of(thing, puzzle, stand):
    if type(thing) is not tuple or len(thing) != 2:
        return None
    if not is_net(thing[0], puzzle, helper.start_of(puzzle)) or not is_net(thing[1], puzzle, stand):
        return None
    return None if set(thing[0][-1]) & set(thing[1][-1]) else len(thing[0]) + len(thing[1]) - 2


def with_one(row, stand):
    return tuple(sorted({*row, stand}))


def other_rows(row, puzzle):
    """What might stand in a row's stead: less, more, not rising, or of other kinds."""
    found = [row[:at] + row[at + 1:] for at in range(len(row))]
    found.extend(row[:at] + (row[at],) + row[at:] for at in range(len(row)))
    found.extend(with_one(row, stand) for stand in helper.some_of(helper.all_deeds(len(puzzle[0])), 5))
    found.extend([row[::-1], row[1:] + row[:1], list(row), (row,), {stand: 0 for stand in row}, (), None, "x", 0,
                  row + (None,), row + ("x",), row + (0,), row + ((),), row + (list(row[-1]),), row + ([],)])
    for at, stand in enumerate(row):
        for number in (0, 1):
            if number in stand:
                false = tuple(bool(told) if told == number else told for told in stand)
                found.append(row[:at] + (false,) + row[at + 1:])
        found.append(row[:at] + (list(stand),) + row[at + 1:])
        found.append(row[:at] + (stand + (len(stand),),) + row[at + 1:])
        found.append(row[:at] + (stand[:-1],) + row[at + 1:])
    return found


def other_nets(net, puzzle):
    """What might stand in a net's stead."""
    found = [(), None, True, "", "x", list(net), (list(net),), (net,), net[0], net[-1], dict(enumerate(net)), net[::-1],
             net[1:], net[:-1], net + net[-1:], net + net[:1], net + (None,), net + ((),), net[:1] + net,
             net + (tuple(helper.all_deeds(len(puzzle[0]))),), [net], 0, net[0] + net, net[:1] * 3]
    for at, row in enumerate(net):
        found.extend(net[:at] + (other,) + net[at + 1:] for other in other_rows(row, puzzle))
    return found


def other_papers(paper, puzzle):
    """What might stand in a net paper's stead."""
    ahead, rest = paper
    found = [list(paper), (rest, ahead), (ahead,), (rest,), (ahead, ahead), (rest, rest), paper + (rest,), (paper,),
             paper + ((),), (), ahead, rest, ahead + rest, {0: ahead, 1: rest}, {ahead: rest}, [ahead, rest],
             (None, rest)]
    found.extend((other, rest) for other in other_nets(ahead, puzzle))
    found.extend((ahead, other) for other in other_nets(rest, puzzle))
    return found


class Halves(helper.Case):

    def test_one_place(self):
        for puzzle in (ONE_PLACE, ONE_PLACE_THRICE):
            for number in range(5):
                self.assert_told(([(0,)], [(0,)]), halves, puzzle, (0,), number)
                self.assert_told("", met_word, puzzle, (0,), number)

    def test_some_halves(self):
        self.assert_told(([H], [A]), halves, RING, A, 0)
        self.assert_told(([H, A, B], [H, A, B]), halves, RING, A, 1)
        self.assert_told(([H, A, B], [(0, 2, 1), SWAP, (2, 1, 0)]), halves, RING, SWAP, 3)
        self.assert_told(([H, SWAP, A, B], [H, A, B, (2, 1, 0)]), halves, RING_AND_SWAP, A, 1)
        self.assert_told(([(0, 1, 2, 3), (1, 2, 3, 0), (3, 0, 1, 2)], [(0, 1, 2, 3), (1, 2, 3, 0), (2, 3, 0, 1)]),
                         halves, FOUR_RING, (1, 2, 3, 0), 1)

    def test_the_stands_that_come_by_so_few_letters(self):
        for puzzle in helper.few_puzzles() + [FOUR, FOUR_RING, SIX_STANDS]:
            for stand in some_stands(puzzle):
                for number in range(5):
                    wanted = tuple(sorted(helper.ball(puzzle, end, number)) for end in (home(puzzle), stand))
                    self.assert_told(wanted, halves, puzzle, stand, number)

    def test_both_lists_are_the_askers_own(self):
        for puzzle in helper.few_puzzles():
            for number in range(5):
                told = self.ask(halves, puzzle, home(puzzle), number)
                wanted = list(told[1])
                told[0].append("x")
                self.assert_same(told[1], wanted)
                self.assert_told((wanted, wanted), halves, puzzle, home(puzzle), number)

    def test_numbers_of_nought_and_four_and_beyond(self):
        for function in (halves, met_word):
            for number in (0, 4):
                function(FIVE, FIVE[0], number)
            for number in (-1, 5, 6, True, False, None, "0", [0], 10 ** 29):
                self.assert_refused(NoNumber, function, FIVE, FIVE[0], number)


class MetWords(helper.Case):

    def test_some_words(self):
        for wanted, puzzle, stand, number in (
                ("", RING, H, 0), (None, RING, A, 0), ("x", RING, A, 1), ("X", RING, B, 1), (None, RING, SWAP, 4),
                ("XY", RING_AND_SWAP, (0, 2, 1), 1), ("YX", RING_AND_SWAP, (2, 1, 0), 1), ("Y", RING_AND_SWAP, SWAP, 1),
                (None, RING_AND_SWAP, SWAP, 0), ("XX", FOUR_RING, (2, 3, 0, 1), 1),
                (None, SIX_STANDS, (0, 1, 2, 4, 3), 1),
                ("XXX", SIX_STANDS, (0, 1, 2, 4, 3), 2), (None, ((0, 1),), (1, 0), 4)):
            self.assert_told(wanted, met_word, puzzle, stand, number)

    def test_the_least_word_where_it_has_at_most_twice_so_many_letters(self):
        for puzzle in helper.few_puzzles() + [FOUR, FOUR_RING, SIX_STANDS]:
            found = helper.least_words(puzzle)
            for stand in helper.some_of(helper.all_deeds(len(puzzle[0])), 3):
                for number in range(5):
                    word = found.get(stand)
                    wanted = word if word is not None and len(word) <= 2 * number else None
                    self.assert_told(wanted, met_word, puzzle, stand, number)

    def test_all_stands_of_five_places(self):
        for puzzle in (FIVE, ((1, 2, 3, 4, 0), (0, 2, 1, 3, 4)), ((1, 0, 2, 3, 4), (0, 2, 3, 4, 1), (4, 1, 2, 3, 0))):
            found = helper.least_words(puzzle)
            for stand, word in found.items():
                for number in (len(word) // 2, (len(word) + 1) // 2):
                    if number < 5:
                        self.assert_told(word if len(word) <= 2 * number else None, met_word, puzzle, stand, number)

    def test_a_word_is_met_just_where_the_lists_have_a_stand_in_common(self):
        for puzzle in helper.few_puzzles():
            for stand in some_stands(puzzle):
                for number in range(5):
                    first, other = self.ask(halves, puzzle, stand, number)
                    told = self.ask(met_word, puzzle, stand, number)
                    self.assertEqual(bool(set(first) & set(other)), told is not None)
                    so_far = far(puzzle, stand)
                    self.assertEqual(so_far is not None and so_far <= 2 * number, told is not None)
                    if told is not None:
                        self.assert_same(told, least_word(puzzle, stand))


class NetBounds(helper.Case):

    def test_nets_of_one_tuple(self):
        self.assert_told(0, net_bound, (((H,),), ((A,),)), RING, A)
        self.assert_told(0, net_bound, (((H, B),), ((A,),)), RING, A)
        self.assert_told(0, net_bound, (((H,),), ((A, B),)), RING, A)
        self.assert_told(0, net_bound, (((H, A, B),), ((SWAP,),)), RING, SWAP)
        self.assert_told(None, net_bound, (((H, A),), ((A,),)), RING, A)
        self.assert_told(None, net_bound, (((B, H),), ((A,),)), RING, A)
        self.assert_told(None, net_bound, (((H, H),), ((A,),)), RING, A)
        self.assert_told(None, net_bound, (((B,),), ((A,),)), RING, A)
        self.assert_told(None, net_bound, (((H,),), ((B,),)), RING, A)
        self.assert_told(None, net_bound, (((A,),), ((H,),)), RING, A)
        self.assert_told(None, net_bound, (((H,),), ((H,),)), RING, H)
        self.assert_told(None, net_bound, (((),), ((A,),)), RING, A)
        self.assert_told(None, net_bound, ((), ((A,),)), RING, A)
        self.assert_told(None, net_bound, (((H,),), ()), RING, A)
        self.assert_told(None, net_bound, ((H,), (A,)), RING, A)
        self.assert_told(None, net_bound, (H, A), RING, A)

    def test_no_paper_of_home(self):
        for puzzle in helper.few_puzzles():
            start = home(puzzle)
            for net in (((start,),), least_net(puzzle, start, 1), least_net(puzzle, start, 2)):
                self.assert_told(None, net_bound, (net, net), puzzle, start)
                self.assert_told(None, net_bound, (((start,),), net), puzzle, start)

    def test_nets_that_grow(self):
        turns = ((0, 2, 1), SWAP, (2, 1, 0))
        self.assert_told(1, net_bound, (((H,), (H, A, B)), ((SWAP,),)), RING, SWAP)
        self.assert_told(2, net_bound, (((H,), (H, A, B)), ((SWAP,), turns)), RING, SWAP)
        self.assert_told(4, net_bound, (((H,), (H, A, B), (H, A, B)), ((SWAP,), turns, turns)), RING, SWAP)
        self.assert_told(9, net_bound, (((H,), (H, A, B)) + ((H, A, B),) * 8, ((SWAP,),)), RING, SWAP)
        self.assert_told(2, net_bound, (((H,), (H, A, B)), (turns[:2], turns)), RING, SWAP)
        self.assert_told(2, net_bound, (((H, B), (H, A, B)), (turns, turns)), RING, SWAP)
        self.assert_told(None, net_bound, (((H,), (H, A, B)), (turns[:1], turns)), RING, SWAP)
        self.assert_told(None, net_bound, (((H,), (H, A)), ((SWAP,),)), RING, SWAP)
        self.assert_told(None, net_bound, (((H,), (H, B)), ((SWAP,),)), RING, SWAP)
        self.assert_told(None, net_bound, (((H,), (A, B)), ((SWAP,),)), RING, SWAP)
        self.assert_told(None, net_bound, (((H,), (H,)), ((SWAP,),)), RING, SWAP)
        self.assert_told(None, net_bound, (((H,), (H, A, B)), ((SWAP,), (H,) + turns[1:])), RING, SWAP)
        self.assert_told(None, net_bound, (((H,), (H, A, B)), ((SWAP,), (H,) + turns)), RING, SWAP)
        self.assert_told(None, net_bound, (((SWAP,), turns), ((H,), (H, A, B))), RING, SWAP)

    def test_more_stands_than_are_asked_spread_themselves(self):
        start, stand, other = (0, 1, 2, 3), (1, 0, 2, 3), (0, 2, 1, 3)
        net = least_net(FOUR_RING, start, 2)
        wide = (with_one(net[0], other),) + tuple(tuple(sorted({*row, *helper.ball(FOUR_RING, other, k)}))
                                                  for k, row in enumerate(net[1:], start=1))
        self.assert_told(2, net_bound, (wide, ((stand,),)), FOUR_RING, stand)
        late = net[:2] + (with_one(net[2], other),)
        self.assert_told(2, net_bound, (late, ((stand,),)), FOUR_RING, stand)
        early = (net[0], with_one(net[1], other), with_one(net[2], other))
        self.assert_told(None, net_bound, (early, ((stand,),)), FOUR_RING, stand)

    def test_least_nets_and_what_might_stand_in_their_stead(self):
        for puzzle, stand, number, other in (
                (RING, SWAP, 1, 1), (RING, A, 0, 0), (RING_AND_SWAP, (0, 2, 1), 1, 0), (RING_AND_SWAP, (2, 1, 0), 0, 1),
                (((1, 0),), (1, 0), 0, 0), (((0, 1),), (1, 0), 2, 1), (FOUR_RING, (2, 3, 0, 1), 1, 0),
                (FOUR_RING, (1, 0, 2, 3), 2, 1), (((0, 1, 2), (1, 0, 2)), (0, 2, 1), 1, 2), (FOUR, (1, 0, 3, 2), 1, 1),
                (SIX_STANDS, (0, 1, 2, 4, 3), 1, 1), (ONE_PLACE, (0,), 1, 1)):
            paper = (least_net(puzzle, helper.start_of(puzzle), number), least_net(puzzle, stand, other))
            self.assert_told(None if puzzle == ONE_PLACE else number + other, net_bound, paper, puzzle, stand)
            self.assert_told(bound_of(paper, puzzle, stand), net_bound, paper, puzzle, stand)
            for thing in other_papers(paper, puzzle):
                self.assert_told(bound_of(thing, puzzle, stand), net_bound, thing, puzzle, stand)

    def test_short_papers_one_by_one(self):
        stands = [(0, 1), (1, 0)]
        rows = [row for many in range(4) for row in itertools.product(stands, repeat=many)]
        nets = [net for many in range(3) for net in itertools.product(rows, repeat=many)]
        for puzzle in (((1, 0),), ((0, 1),)):
            for paper in helper.some_of(itertools.product(nets, repeat=2), 7):
                self.assert_told(bound_of(paper, puzzle, (1, 0)), net_bound, paper, puzzle, (1, 0))

    def test_whatever_else(self):
        for puzzle in helper.few_puzzles():
            for stand in (home(puzzle), helper.all_deeds(len(puzzle[0]))[-1]):
                for thing in helper.things() + helper.texts() + ["", "x", puzzle, stand, (stand, stand)]:
                    self.assert_told(None, net_bound, thing, puzzle, stand)
                    for paper in ((thing, ((stand,),)), (((home(puzzle),),), thing), (thing, thing), [thing, thing]):
                        self.assert_told(bound_of(paper, puzzle, stand), net_bound, paper, puzzle, stand)

    def test_a_wrong_stand_is_refused_whatever_the_thing(self):
        for thing in helper.things() + [(((H,),), ((A,),))]:
            for stand in ((0, 1), (True, 0, 2), None, "x", [1, 2, 0]):
                self.assert_refused(NoStand, net_bound, thing, RING, stand)

    def test_the_stand_is_farther_than_the_bound_or_not_come_to(self):
        for puzzle in helper.few_puzzles():
            for stand in some_stands(puzzle):
                for number, other in itertools.product(range(3), repeat=2):
                    paper = (least_net(puzzle, home(puzzle), number), least_net(puzzle, stand, other))
                    told = self.ask(net_bound, paper, puzzle, stand)
                    self.assert_same(told, bound_of(paper, puzzle, stand))
                    if told is not None and far(puzzle, stand) is not None:
                        self.assertLess(told, far(puzzle, stand))


class NetPapers(helper.Case):

    def test_some_papers(self):
        turns = ((0, 2, 1), SWAP, (2, 1, 0))
        self.assert_told((((H,),), ((A,),)), net_paper, RING, A, 0, 0)
        self.assert_told(None, net_paper, RING, A, 1, 0)
        self.assert_told(None, net_paper, RING, H, 0, 0)
        self.assert_told(None, net_paper, ONE_PLACE, (0,), 0, 0)
        self.assert_told((((H,), (H, A, B)), ((SWAP,),)), net_paper, RING, SWAP, 1, 0)
        self.assert_told((((H,),), ((SWAP,), turns, turns)), net_paper, RING, SWAP, 0, 2)
        self.assert_told((((H,), (H, SWAP, A, B)), (((0, 2, 1),),)), net_paper, RING_AND_SWAP, (0, 2, 1), 1, 0)
        self.assert_told(None, net_paper, RING_AND_SWAP, (0, 2, 1), 1, 1)

    def test_the_fewest_stands(self):
        for puzzle in helper.few_puzzles():
            for stand in some_stands(puzzle)[::3]:
                for number, other in itertools.product(range(5), repeat=2):
                    paper = (least_net(puzzle, home(puzzle), number), least_net(puzzle, stand, other))
                    wanted = None if set(paper[0][-1]) & set(paper[1][-1]) else paper
                    self.assert_told(wanted, net_paper, puzzle, stand, number, other)

    def test_a_paper_told_is_one_and_its_bound_is_both_numbers(self):
        for puzzle in helper.few_puzzles() + [FOUR, SIX_STANDS]:
            for stand in some_stands(puzzle)[::3]:
                so_far = far(puzzle, stand)
                for number, other in ((0, 0), (1, 0), (0, 2), (2, 1), (1, 3), (4, 4)):
                    paper = self.ask(net_paper, puzzle, stand, number, other)
                    self.assertEqual(paper is None, so_far is not None and so_far <= number + other)
                    if paper is not None:
                        self.assert_told(number + other, net_bound, paper, puzzle, stand)

    def test_numbers_of_nought_and_four_and_beyond(self):
        self.assertEqual(list(map(len, net_paper(RING, SWAP, 4, 0))), [5, 1])
        self.assertEqual(list(map(len, net_paper(RING, SWAP, 0, 4))), [1, 5])
        for number in (-1, 5, True, False, None, "0", [0], 10 ** 29):
            self.assert_refused(NoNumber, net_paper, RING, SWAP, number, 0)
            self.assert_refused(NoNumber, net_paper, RING, SWAP, 0, number)
            self.assert_refused(NoNumber, net_paper, RING, H, number, number)


if __name__ == "__main__":
    unittest.main()
