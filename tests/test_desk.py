"""Points 101 and 102: a desk, the lines that it is told, and its answers."""

import itertools
import unittest

from shortdeeds.bounds import sign
from shortdeeds.desk import Desk
from shortdeeds.errors import NoLine, NoNumber
from shortdeeds.orders import order
from shortdeeds.places import place_lots
from shortdeeds.puzzles import behind
from shortdeeds.steps import led_home, step_table
from shortdeeds.texts import read, show
from shortdeeds.ways import far, least_word, reached
from tests import helper

ASKED = ("stand", "deeds", "many", "far", "least", "steps", "sign", "lots")
BEGINNING = {"stand": "0", "deeds": "0", "many": "1", "far": "0", "least": "none", "steps": "none", "sign": "1",
             "lots": "0"}

# None of these is a line, whatever the puzzle.
NO_LINES = (
    "", " ", "  ", "\n", "x", "xX", "0", "012", "none", "undo", "say", "words", "line", "help", "reached", "order",
    "do", "puzzle", "puzzle ", "do ", "order ", "puzzle  ", "do  ", "order  ", "stand ", " stand", "stand\n",
    "\nstand", "stand stand", "stand x", "stand 0", "stand  ", "stands", "stan", "Stand", "STAND", "s", "st and",
    "stand\t", "stand.", "deeds ", " deeds", "deeds 0", "deeds x", "deed", "Deeds", "many ", " many", "many 1",
    "Many", "far ", " far", "far 0", "far x", "Far", "least ", " least", "least x", "least 0", "Least", "steps ",
    " steps", "steps x", "step", "Steps", "sign ", " sign", "sign 1", "signs", "Sign", "lots ", " lots", "lots 0",
    "lot", "Lots", "home ", " home", "home home", "home 0", "home x", "Home", "HOME", "home\n", "back ", " back",
    "back back", "back 1", "back x", "Back", "back\n", "do none", "order none", "do 0", "order 0", "do w", "order w",
    "do \n", "do x\n", "order x\n", "do x ", " do x", "order x ", " order x", "do  x", "order  x", "do x x",
    "order x x", "do x  x", "do xx X", "order x X", "Do x", "DO x", "Order x", "dox", "do.x", "do\tx", "do\nx",
    "order\tx", "orderx", "x do", "x order", "do do", "order order", "do x,x", "do (x)", "order -x", "do xw", "do wx",
    "order xw", "do home", "do stand", "order stand", "do x stand", "stand do x", "home do x", "puzzle 0 ",
    " puzzle 0", "puzzle  0", "puzzle 0  0", "puzzle 0 0 0 0", "puzzle 1", "puzzle 00", "puzzle 11", "puzzle 012 01",
    "puzzle 0 10", "puzzle 10 0", "puzzle 0 x", "puzzle x", "puzzle x 0", "puzzle 0\n", "puzzle\n0", "puzzle\t0",
    "puzzle 012345", "puzzle 10 01 10 01", "puzzle 01234 0123", "puzzle none", "Puzzle 0", "PUZZLE 0", "puzzles 0",
    "puzzle0", "puzzle.0", "0 puzzle", "puzzle 0 0 0 ", "puzzle 02", "puzzle -1", "puzzle 1 0", "puzzle (0,)",
    "puzzle 120,102", "puzzle 120 102 x", "puzzle 120 102 ", "puzzle 120 102  210", "puzzle 1 2 0", "puzzle 120 1O2",
    "puzzle 120 122", "puzzle puzzle 0", "puzzle 0 puzzle 0", "deeds 120 102", "back home", "home back", "?" * 40,
    "stand" * 8, "lots\nlots", "none ", "do X\n", "many far", "far many",
)


def figures(numbers):
    return "".join(map(str, numbers))


def written(word):
    return word or "none"


def replayed(lines):
    """The puzzle and the stand that come by lines told from the very beginning."""
    puzzle, stand = ((0,),), (0,)
    for line in lines:
        first, *others = line.split(" ")
        if first == "puzzle":
            puzzle = tuple(tuple(map(int, word)) for word in others)
        stand = helper.walk(puzzle, stand, others[0]) if first == "do" else helper.start_of(puzzle)
    return puzzle, stand


def answers_of(puzzle, stand):
    """What a desk answers where these stand, by the functions of the stages."""
    return {
        "stand": figures(stand), "deeds": show(puzzle), "many": str(len(reached(puzzle))),
        "far": str(far(puzzle, stand)), "least": written(least_word(puzzle, stand)),
        "steps": written(led_home(puzzle, step_table(puzzle), stand)), "sign": str(sign(puzzle, stand)),
        "lots": " ".join(figures(lot) for lot in place_lots(puzzle)),
    }


def some_lines(many, seed):
    """Lines that a desk may be told, mixed without chance, those with undoing among them."""
    puzzles = helper.few_puzzles()
    puzzle, past, found = ((0,),), [], []
    for at in range(many):
        seed = (seed * 1103515245 + 12345) % 2 ** 31
        pick, more = seed // 65536 % 16, seed // 1048576
        if pick == 0:
            line = "puzzle " + show(puzzles[more % len(puzzles)])
        elif pick < 9:
            letters = helper.letters(puzzle)
            line = "do " + "".join(letters[more // 3 ** k % len(letters)] for k in range(1 + more % 4))
        else:
            line = "home" if pick == 9 else "back"
        if line == "back" and not past:
            continue
        past = past[:-1] if line == "back" else past + [line]
        puzzle = replayed(past)[0]
        found.append((line, list(past)))
    return found


class Desks(helper.Case):

    def said(self, desk, line):
        """What the desk answers, which is a text."""
        told = self.ask(desk.say, line)
        self.assertIs(type(told), str, line)
        return told

    def assert_said(self, wanted, desk, line):
        self.assertEqual(self.said(desk, line), wanted, line)

    def assert_all_said(self, wanted, desk):
        self.assertEqual({line: self.said(desk, line) for line in wanted}, wanted)

    def told_desk(self, *lines):
        desk = Desk()
        for line in lines:
            self.said(desk, line)
        return desk


class Lines(Desks):

    def test_at_the_very_beginning(self):
        self.assert_all_said(BEGINNING, Desk())
        desk = Desk()
        self.assert_said("1", desk, "order x")
        self.assert_said("1", desk, "order XxX")
        self.assert_refused(NoNumber, desk.say, "back")
        self.assert_refused(NoLine, desk.say, "order y")
        self.assert_said("0", desk, "do xX")
        self.assert_said("0", desk, "home")
        self.assert_said("0", desk, "back")
        self.assert_said("0", desk, "back")
        self.assert_refused(NoNumber, desk.say, "back")
        self.assert_all_said(BEGINNING, desk)

    def test_some_lines(self):
        desk = Desk()
        for line, wanted in (
                ("puzzle 120 102", "012"), ("stand", "012"), ("deeds", "120 102"), ("many", "6"), ("far", "0"),
                ("least", "none"), ("steps", "none"), ("sign", "1"), ("lots", "012"), ("order x", "3"),
                ("order y", "2"),
                ("order xy", "2"), ("order xX", "1"), ("do xy", "210"), ("stand", "210"), ("far", "2"), ("least", "YX"),
                ("steps", "XXY"), ("sign", "-1"), ("deeds", "120 102"), ("order XXXX", "3"), ("do Y", "120"),
                ("far", "1"), ("least", "x"), ("sign", "1"), ("steps", "X"), ("back", "210"), ("back", "012"),
                ("do X", "201"), ("home", "012"), ("far", "0"), ("back", "201"), ("least", "X"), ("steps", "YXY"),
                ("puzzle 10243 01234 12034", "01234"), ("lots", "012 34"), ("many", "6"),
                ("deeds", "10243 01234 12034"),
                ("do zyX", "21043"), ("sign", "1"), ("order z", "3"), ("order Zx", "2"), ("order y", "1"),
                ("back", "01234"), ("back", "201"), ("deeds", "120 102"), ("stand", "201"), ("back", "012"),
                ("back", "0"), ("deeds", "0"), ("puzzle 0 0 0", "0"), ("order zYx", "1"), ("do zzYx", "0"),
                ("lots", "0"),
                ("puzzle 10234 01243", "01234"), ("lots", "01 2 34"), ("many", "4"), ("puzzle 01", "01"),
                ("lots", "0 1"),
                ("do x", "01"), ("far", "0"), ("least", "none"), ("many", "1")):
            self.assert_said(wanted, desk, line)

    def test_each_puzzle_is_told_and_at_home(self):
        for puzzle in helper.sample_puzzles()[::4] + helper.few_puzzles():
            desk = self.told_desk("puzzle 120 102", "do x")
            self.assert_said(figures(helper.start_of(puzzle)), desk, "puzzle " + show(puzzle))
            self.assert_said(show(puzzle), desk, "deeds")
            self.assert_said(figures(helper.start_of(puzzle)), desk, "stand")

    def test_a_desk_answers_as_the_functions_of_the_stages_do(self):
        for puzzle in helper.few_puzzles():
            desk = self.told_desk("puzzle " + show(puzzle))
            stand = helper.start_of(puzzle)
            for word in helper.some_of(helper.all_words(puzzle, 3), 11)[1:] + ["xXxxXXxXXXxx"]:
                stand = behind(puzzle, stand, word)
                self.assert_said(figures(stand), desk, "do " + word)
                self.assert_said(str(order(puzzle, word)), desk, "order " + word)
                self.assert_all_said(answers_of(puzzle, stand), desk)

    def test_each_letter_of_a_puzzle(self):
        for puzzle in helper.few_puzzles():
            for letter in helper.letters(puzzle):
                desk = self.told_desk("puzzle " + show(puzzle), "do xX")
                self.assert_said(str(order(puzzle, letter)), desk, "order " + letter)
                self.assert_said(figures(helper.move(puzzle, helper.start_of(puzzle), letter)), desk, "do " + letter)

    def test_what_is_asked_changes_nothing(self):
        desk = self.told_desk("puzzle 12340 10234", "do xxy")
        wanted = answers_of(*replayed(["puzzle 12340 10234", "do xxy"]))
        for first in (*ASKED, "order xy"):
            self.said(desk, first)
            self.assert_all_said(wanted, desk)
        self.assert_said("01234", desk, "back")
        self.assert_said("0", desk, "back")
        self.assert_refused(NoNumber, desk.say, "back")

    def test_long_words_are_told_and_somewhat_beyond_twelve_letters(self):
        desk = self.told_desk("puzzle 12340 10234")
        self.assert_said(figures(replayed(["puzzle 12340 10234", "do " + "xyXXy" * 4])[1]), desk, "do " + "xyXXy" * 4)
        self.assert_said("5", desk, "order " + "x" * 24)


class Back(Desks):

    def test_the_last_that_stands_is_undone(self):
        desk = self.told_desk("puzzle 120 102", "do x", "home", "do y", "puzzle 10", "do x")
        for wanted, deeds in (("01", "10"), ("102", "120 102"), ("012", "120 102"), ("120", "120 102"),
                              ("012", "120 102"), ("0", "0")):
            self.assert_said(wanted, desk, "back")
            self.assert_said(deeds, desk, "deeds")
            self.assert_said(wanted, desk, "stand")
        self.assert_refused(NoNumber, desk.say, "back")

    def test_what_is_told_behind_an_undoing(self):
        desk = self.told_desk("puzzle 120 102", "do x", "do y", "back", "do x")
        self.assert_said("201", desk, "stand")
        self.assert_said("120", desk, "back")
        self.assert_said("012", desk, "back")
        self.assert_said("102", desk, "do y")
        self.assert_said("012", desk, "back")
        self.assert_said("0", desk, "back")
        self.assert_refused(NoNumber, desk.say, "back")

    def test_lines_that_change_nothing_are_undone_one_by_one(self):
        desk = self.told_desk("puzzle 120", "home", "home", "do xX", "puzzle 120", "do x")
        for wanted in ("012", "012", "012", "012", "012", "0"):
            self.assert_said(wanted, desk, "back")
        self.assert_refused(NoNumber, desk.say, "back")

    def test_refused_where_none_stands_and_nothing_is_changed(self):
        desk = Desk()
        for _ in range(3):
            self.assert_refused(NoNumber, desk.say, "back")
            self.assert_all_said(BEGINNING, desk)
        self.assert_said("01", desk, "puzzle 10")
        self.assert_said("10", desk, "do x")
        self.assert_said("01", desk, "back")
        self.assert_said("0", desk, "back")
        self.assert_refused(NoNumber, desk.say, "back")

    def test_hundreds_of_lines_all_undone_again(self):
        desk = Desk()
        puzzles = helper.few_puzzles()
        told = []
        for at in range(700):
            if at % 100 == 0:
                told.append("puzzle " + show(puzzles[at // 100]))
            else:
                told.append("home" if at % 17 == 5 else "do " + "xXxx"[at % 3:] + "X" * (at % 2))
        wanted = [replayed([])]
        for at, line in enumerate(told):
            puzzle, stand = wanted[-1]
            then = replayed([line]) if at % 100 == 0 else (puzzle, helper.start_of(puzzle))
            if line.startswith("do"):
                then = (puzzle, helper.walk(puzzle, stand, line[3:]))
            wanted.append(then)
            self.assert_said(figures(then[1]), desk, line)
        for puzzle, stand in wanted[-2::-1]:
            self.assert_said(figures(stand), desk, "back")
            self.assert_said(show(puzzle), desk, "deeds")
        self.assert_refused(NoNumber, desk.say, "back")
        self.assert_all_said(BEGINNING, desk)

    def test_as_if_what_is_undone_had_not_been_told(self):
        for seed in (1, 2, 3, 4):
            desk = Desk()
            for at, (line, past) in enumerate(some_lines(160, seed)):
                puzzle, stand = replayed(past)
                self.assert_said(figures(stand), desk, line)
                self.assert_said(show(puzzle), desk, "deeds")
                if at % 40 == 0:
                    self.assert_all_said(answers_of(puzzle, stand), desk)


class NoLines(Desks):

    def assert_as_before(self, desk, lines, thing):
        """The thing is refused ahead of all else, and what stands at the desk is as before."""
        self.assert_refused(NoLine, desk.say, thing)
        puzzle, stand = replayed(lines)
        self.assert_said(figures(stand), desk, "stand")
        self.assert_said(show(puzzle), desk, "deeds")

    def test_texts_that_are_none(self):
        for lines in ([], ["puzzle 120 102", "do x"], ["puzzle 0 0 0"], ["puzzle 12340 10234 43210", "do zY"]):
            desk = self.told_desk(*lines)
            for thing in NO_LINES:
                self.assert_as_before(desk, lines, thing)
            self.assert_all_said(answers_of(*replayed(lines)), desk)
            for at in range(len(lines), 0, -1):
                self.assert_said(figures(replayed(lines[:at - 1])[1]), desk, "back")
            self.assert_refused(NoNumber, desk.say, "back")

    def test_what_is_no_text(self):
        for lines in ([], ["puzzle 120 102", "do x"]):
            desk = self.told_desk(*lines)
            for thing in helper.things() + [["stand"], ("stand",), {"stand": "stand"}, [["do", "x"]], ("do", "x"),
                                            ["do", "x"], {"do": "x"}, ("puzzle", "0"), 120, ((0,),), ["back"]]:
                self.assert_as_before(desk, lines, thing)
            self.assert_all_said(answers_of(*replayed(lines)), desk)

    def test_words_that_the_puzzle_has_not(self):
        for text, letters in (("120", "yYzZ"), ("120 102", "zZ"), ("0", "yYzZ"), ("120 102 201", "")):
            lines = ["puzzle " + text, "do xX"]
            desk = self.told_desk(*lines)
            for word in [*letters, *("x" + letter for letter in letters), *(letter + "X" for letter in letters),
                         "", "w", "xw", "xx1", " ", "none", "012", "do", "x_", "x.", "x\t"]:
                self.assert_as_before(desk, lines, "do " + word)
                self.assert_as_before(desk, lines, "order " + word)

    def test_letters_that_an_undone_puzzle_had(self):
        desk = self.told_desk("puzzle 120", "puzzle 120 102 201", "do zy", "back", "back")
        for line in ("do y", "order z", "do xyX"):
            self.assert_as_before(desk, ["puzzle 120"], line)
        desk = self.told_desk("puzzle 120 102 201", "puzzle 120")
        self.assert_as_before(desk, ["puzzle 120"], "do z")
        self.said(desk, "back")
        self.assert_said("201", desk, "do z")

    def test_a_blank_more_or_a_sign_more_anywhere(self):
        lines = ["puzzle 120 102", "do x"]
        desk = self.told_desk(*lines)
        for line in (*ASKED, "home", "back", "do xy", "order xy", "puzzle 120 102"):
            for at, sign_more in itertools.product(range(len(line) + 1), (" ", "\n", "\t", "_", "w")):
                self.assert_as_before(desk, lines, line[:at] + sign_more + line[at:])
            for at in range(len(line)):
                if line[at] not in "xy":
                    self.assert_as_before(desk, lines, line[:at] + line[at + 1:])
                if line[at].islower() and line[at] not in "xy":
                    self.assert_as_before(desk, lines, line[:at] + line[at].upper() + line[at + 1:])

    def test_refused_just_where_the_text_is_no_puzzle(self):
        for words in itertools.product(("0", "10", "01", "120", "11", "", "x"), repeat=2):
            desk = Desk()
            right = all(sorted(word) == list("012"[:len(word)]) and word for word in words)
            if right and len(words[0]) == len(words[1]):
                self.assert_said("012"[:len(words[0])], desk, "puzzle " + " ".join(words))
                self.assert_said(show(read(" ".join(words))), desk, "deeds")
            else:
                self.assert_as_before(desk, [], "puzzle " + " ".join(words))

    def test_ahead_of_what_back_refuses(self):
        desk = Desk()
        for line in ("back ", " back", "back back", "back 0", "Back", "back\n", ["back"]):
            self.assert_refused(NoLine, desk.say, line)
        self.assert_refused(NoNumber, desk.say, "back")


class TwoDesks(Desks):

    def test_two_desks_have_nothing_in_common(self):
        one, other = Desk(), Desk()
        self.assert_said("012", one, "puzzle 120 102")
        self.assert_all_said(BEGINNING, other)
        self.assert_refused(NoNumber, other.say, "back")
        self.assert_said("120", one, "do x")
        self.assert_said("01", other, "puzzle 10")
        self.assert_said("10", other, "do x")
        self.assert_said("120", one, "stand")
        self.assert_said("01", other, "back")
        self.assert_said("120", one, "stand")
        self.assert_said("012", one, "back")
        self.assert_said("0", other, "back")
        self.assert_refused(NoNumber, other.say, "back")
        self.assert_said("120 102", one, "deeds")
        self.assert_all_said(BEGINNING, Desk())
        self.assert_said("0", one, "back")

    def test_two_desks_told_by_turns(self):
        rows = [some_lines(90, seed) for seed in (7, 11)]
        desks = [Desk(), Desk()]
        for pair in zip(*rows):
            for desk, (line, past) in zip(desks, pair):
                self.assert_said(figures(replayed(past)[1]), desk, line)
        for desk, pair in zip(desks, zip(*rows)):
            past = rows[desks.index(desk)][min(map(len, rows)) - 1][1]
            self.assert_all_said(answers_of(*replayed(past)), desk)

    def test_the_same_told_again_has_the_same_answers(self):
        for seed in (3, 5):
            rows = some_lines(80, seed)
            answers = [[self.said(desk, line) for line, _ in rows] for desk in (Desk(), Desk())]
            self.assertEqual(*answers)


if __name__ == "__main__":
    unittest.main()
