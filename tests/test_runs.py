"""Points 13 and 14: what the hand does, and what is told of it."""

import copy
import unittest

from tests.makings import SecondHand, programs
from tests.samples import MOST, NO_WORDS, SAMPLE, nested
from turtlehouse.errors import HouseError
from turtlehouse.floor import moved
from turtlehouse.notes import read, shown
from turtlehouse.runs import run

BEGINNING = ((0, 0), (0, 0))


def at(a, b=0, c=0, d=0):
    """A place by its four ints."""
    return ((a, b), (c, d))


class RunCase(unittest.TestCase):
    def told(self, text, most=4000):
        return run(read(text), most)

    def assert_told(self, text, strokes, corners, end, turned, done=True, most=4000):
        with self.subTest(text=text, most=most):
            answer = self.told(text, most)
            self.assertIs(type(answer), tuple)
            self.assertEqual(answer, (strokes, corners, end, turned, done))
            self.assertIs(type(answer[0]), list)
            self.assertIs(type(answer[1]), list)
            self.assertIs(type(answer[2]), tuple)
            self.assertIs(type(answer[2][2]), bool)
            self.assertIs(type(answer[4]), bool)
            self.assertEqual(self.told(text, most), answer)

    def assert_strokes(self, text, *strokes):
        with self.subTest(text=text):
            answer = self.told(text)
            self.assertEqual(answer[0], list(strokes))
            self.assertIs(answer[4], True)

    def assert_end(self, text, place, heading, down=True, ink=0):
        with self.subTest(text=text):
            self.assertEqual(self.told(text)[2], (place, heading, down, ink))

    def assert_alike(self, one, other):
        """Two texts by which the hand does the same, corners and turns too."""
        with self.subTest(one=one, other=other):
            self.assertEqual(self.told(one), self.told(other))


class EachStatementTest(RunCase):
    def test_nothing(self):
        self.assert_told("", [], [BEGINNING], (BEGINNING, 0, True, 0), 0)

    def test_go(self):
        for steps in (1, 2, 5, MOST, -1, -3, -MOST):
            self.assert_told(
                f"go {steps}", [(0, BEGINNING, at(steps))], [BEGINNING, at(steps)], (at(steps), 0, True, 0), 0)

    def test_go_by_nothing(self):
        self.assert_told("go 0", [], [BEGINNING, BEGINNING], (BEGINNING, 0, True, 0), 0)

    def test_turn(self):
        for eighths in (0, 1, 2, 7, 8, 9, 16, 17, -1, -7, -8, -9, -17, MOST, -MOST, MOST - 1, 1 - MOST):
            self.assert_told(
                f"turn {eighths}", [], [BEGINNING], (BEGINNING, eighths % 8, True, 0), eighths)

    def test_up_and_down(self):
        self.assert_told("up", [], [BEGINNING], (BEGINNING, 0, False, 0), 0)
        self.assert_told("down", [], [BEGINNING], (BEGINNING, 0, True, 0), 0)
        self.assert_told("up up", [], [BEGINNING], (BEGINNING, 0, False, 0), 0)
        self.assert_told("up down", [], [BEGINNING], (BEGINNING, 0, True, 0), 0)
        self.assert_told("up down up", [], [BEGINNING], (BEGINNING, 0, False, 0), 0)

    def test_ink(self):
        for value in (0, 1, 7, 8, 9, 15, 16, 100, MOST, MOST - 1, -1, -7, -8, -9, -16, -MOST, 1 - MOST):
            self.assert_told(f"ink {value}", [], [BEGINNING], (BEGINNING, 0, True, value % 8), 0)
        self.assert_end("ink -1", BEGINNING, 0, True, 7)
        self.assert_end("ink -8", BEGINNING, 0, True, 0)
        self.assert_end("ink 13", BEGINNING, 0, True, 5)

    def test_mark(self):
        self.assert_told("mark 4", [], [BEGINNING], (BEGINNING, 0, True, 0), 0)

    def test_mark_and_back(self):
        self.assert_told("mark 4 back 4", [], [BEGINNING, BEGINNING], (BEGINNING, 0, True, 0), 0)

    def test_again(self):
        self.assert_told(
            "again 2 ( go 3 )", [(0, BEGINNING, at(3)), (0, at(3), at(6))], [BEGINNING, at(3), at(6)],
            (at(6), 0, True, 0), 0)

    def test_if(self):
        self.assert_told("if 1 ( turn 1 ) else ( turn 2 )", [], [BEGINNING], (BEGINNING, 1, True, 0), 1)
        self.assert_told("if 0 ( turn 1 ) else ( turn 2 )", [], [BEGINNING], (BEGINNING, 2, True, 0), 2)

    def test_do(self):
        self.assert_told(
            "word a 1 ( turn 1*n0+0 ) do a 5", [], [BEGINNING], (BEGINNING, 5, True, 0), 5)


class WalkTest(RunCase):
    def test_by_each_heading(self):
        for eighths in range(-16, 17):
            for steps in (1, 7, -2, MOST, -MOST):
                place = moved(BEGINNING, eighths % 8, steps)
                self.assert_told(
                    f"turn {eighths} go {steps}", [(0, BEGINNING, place)], [BEGINNING, place],
                    (place, eighths % 8, True, 0), eighths)

    def test_each_heading_by_its_ints(self):
        places = (at(5), at(0, 5, 0, 5), at(0, 0, 5), at(0, -5, 0, 5),
                  at(-5), at(0, -5, 0, -5), at(0, 0, -5), at(0, 5, 0, -5))
        for heading, place in enumerate(places):
            self.assert_end(f"turn {heading} go 5", place, heading)
            self.assert_end(f"turn {heading} go -5", moved(BEGINNING, (heading + 4) % 8, 5), heading)

    def test_an_octagon_comes_back(self):
        answer = self.told("again 8 ( go 3 turn 1 )")
        self.assertEqual(answer[2:], ((BEGINNING, 0, True, 0), 8, True))
        self.assertEqual(len(answer[0]), 8)
        self.assertEqual(answer[1][0], answer[1][-1])
        self.assertEqual([stroke[2] for stroke in answer[0][:-1]], [stroke[1] for stroke in answer[0][1:]])

    def test_turns_add_up(self):
        self.assert_told("turn 5 turn -2 turn 1000000 turn 9", [], [BEGINNING], (BEGINNING, 4, True, 0), 1000012)
        self.assertEqual(self.told("again 1000 ( turn 1000000 )")[3], 10 ** 9)
        self.assertEqual(self.told("again 1000 ( turn -1000000 )")[3], -(10 ** 9))

    def test_far_away(self):
        self.assert_end("again 1300 ( go 1000000 )", at(1300 * MOST), 0)
        self.assert_end("turn 1 again 1300 ( go -1000000 )", at(0, -1300 * MOST, 0, -1300 * MOST), 1)

    def test_the_pen_up(self):
        self.assert_told(
            "go 1 up go 1 go 0 down go 0 go 1",
            [(0, BEGINNING, at(1)), (0, at(2), at(3))],
            [BEGINNING, at(1), at(2), at(2), at(2), at(3)],
            (at(3), 0, True, 0), 0)

    def test_strokes_are_told_each_for_itself(self):
        self.assert_strokes("go 1 go 1 go -2", (0, BEGINNING, at(1)), (0, at(1), at(2)), (0, at(2), BEGINNING))

    def test_strokes_have_the_ink_of_their_time(self):
        self.assert_strokes(
            "go 1 ink 3 go 1 ink 8 go 1 up ink -1 go 1 down go 1",
            (0, BEGINNING, at(1)), (3, at(1), at(2)), (0, at(2), at(3)), (7, at(4), at(5)))


class MarksTest(RunCase):
    def test_place_and_heading_are_kept(self):
        self.assert_told(
            "go 2 turn 3 mark 5 turn 1 go 1 turn 1 back 5",
            [(0, BEGINNING, at(2)), (0, at(2), at(1))],
            [BEGINNING, at(2), at(1), at(2)],
            (at(2), 3, True, 0), 5)

    def test_pen_and_ink_stay_as_they_are(self):
        self.assert_end("mark 1 up ink 3 go 1 back 1", BEGINNING, 0, False, 3)
        self.assert_end("up ink 3 mark 1 down ink 4 go 1 back 1", BEGINNING, 0, True, 4)

    def test_nothing_is_drawn_back(self):
        self.assert_strokes("mark 1 go 3 back 1 go 2", (0, BEGINNING, at(3)), (0, BEGINNING, at(2)))

    def test_turns_do_not_count_the_back(self):
        self.assertEqual(self.told("turn 3 mark 1 turn 2 back 1")[3], 5)

    def test_a_mark_made_again(self):
        self.assert_end("mark 1 go 3 turn 1 mark 1 go 5 turn 1 back 1", at(3), 1)
        self.assert_end("mark 1 go 3 mark 1 back 1 back 1", at(3), 0)

    def test_a_back_keeps_the_mark(self):
        self.assert_end("go 1 mark 1 go 3 back 1 go 2 back 1", at(1), 0)

    def test_each_mark_by_itself(self):
        for number in range(10):
            made = " ".join(f"mark {other} go 1 turn 1" for other in range(10))
            answer = self.told(f"{made} back {number}")
            wanted = self.told(" ".join(["go 1 turn 1"] * number))
            self.assertEqual(answer[2][:2], wanted[2][:2])

    def test_marks_within_words(self):
        self.assert_end("word a 0 ( go 3 mark 2 ) do a go 4 back 2", at(3), 0)
        self.assert_end("word a 0 ( back 2 ) go 3 mark 2 go 4 do a", at(3), 0)
        self.assert_end("word a 0 ( mark 2 ) word b 0 ( back 2 ) go 3 do a go 4 do b go 1", at(4), 0)
        self.assert_end("word a 0 ( mark 2 go 1 ) do a do a back 2", at(1), 0)

    def test_marks_within_rounds(self):
        self.assert_end("again 5 ( mark 2 go 1 ) back 2", at(4), 0)
        self.assert_strokes(
            "mark 0 again 3 ( go 1*count+1 back 0 turn 2 mark 0 )",
            (0, BEGINNING, at(1)), (0, BEGINNING, at(0, 0, 2)), (0, BEGINNING, at(-3)))


class RoundsTest(RunCase):
    def test_not_at_all_below_one(self):
        for times in (0, -1, -MOST):
            self.assert_told(f"again {times} ( go 1 ) turn 1", [], [BEGINNING], (BEGINNING, 1, True, 0), 1)

    def test_count_from_nought_on(self):
        self.assert_alike("again 4 ( go 1*count+0 )", "go 0 go 1 go 2 go 3")
        self.assert_alike("again 4 ( go 3*count+-4 turn -1*count+2 )", "go -4 turn 2 go -1 turn 1 go 2 turn 0 go 5 turn -1")

    def test_count_of_the_innermost_again(self):
        self.assert_alike(
            "again 2 ( go 1*count+10 again 2 ( turn 1*count+20 ) go 1*count+30 )",
            "go 10 turn 20 turn 21 go 30 go 11 turn 20 turn 21 go 31")
        self.assert_alike(
            "again 3 ( again 1*count+0 ( turn 1*count+5 ) go 1*count+0 )",
            "go 0 turn 5 go 1 turn 5 turn 6 go 2")

    def test_count_through_an_if(self):
        self.assert_alike(
            "again 4 ( if 1*count+-1 ( go 1*count+0 ) else ( turn 1*count+5 ) )", "turn 5 turn 6 go 2 go 3")
        self.assert_alike(
            "again 2 ( if 1 ( again 2 ( if 1 ( go 1*count+1 ) else ( ) ) ) else ( ) go 1*count+7 )",
            "go 1 go 2 go 7 go 1 go 2 go 8")

    def test_the_amount_is_reckoned_once(self):
        self.assert_alike("again 2 ( again 1*count+1 ( go 1 ) )", "go 1 go 1 go 1")

    def test_six_rounds_one_within_another(self):
        program = (NO_WORDS, nested(["again"] * 6, (("go", 1),)))
        self.assertEqual(run(program, 13)[2][0], at(1))
        self.assert_end("again 2 ( again 2 ( again 2 ( again 2 ( again 2 ( again 2 ( go 1 ) ) ) ) ) )", at(64), 0)

    def test_an_again_behind_an_again(self):
        self.assert_alike("again 2 ( again 2 ( go 1 ) again 2 ( turn 1*count+0 ) )",
                          "go 1 go 1 turn 0 turn 1 go 1 go 1 turn 0 turn 1")


class ChoicesTest(RunCase):
    def test_above_nought_alone(self):
        for amount in (1, 2, MOST):
            self.assert_alike(f"if {amount} ( go 1 ) else ( go 2 )", "go 1")
        for amount in (0, -1, -MOST):
            self.assert_alike(f"if {amount} ( go 1 ) else ( go 2 )", "go 2")

    def test_what_stands_behind(self):
        self.assert_alike("if 1 ( go 1 ) else ( go 2 ) go 3", "go 1 go 3")
        self.assert_alike("if 1 ( ) else ( go 2 ) go 3", "go 3")
        self.assert_alike("if 0 ( go 1 ) else ( ) go 3", "go 3")

    def test_an_if_within_an_if(self):
        self.assert_alike("if 1 ( if 0 ( go 1 ) else ( go 2 ) ) else ( go 3 )", "go 2")
        self.assert_alike("if 0 ( go 3 ) else ( if 5 ( go 1 ) else ( go 2 ) )", "go 1")


class WordsTest(RunCase):
    def test_numbers_in_their_order(self):
        self.assert_alike(
            "word a 4 ( go 1*n0+0 turn 1*n1+0 go 1*n2+0 turn 1*n3+0 ) do a 1 2 3 4", "go 1 turn 2 go 3 turn 4")
        self.assert_alike("word a 2 ( go 2*n1+-3 go -1*n0+5 ) do a 7 9", "go 15 go -2")

    def test_numbers_are_the_word_s_own(self):
        self.assert_alike(
            "word a 1 ( go 1*n0+0 ) word b 2 ( do a 1*n1+0 go 1*n0+0 do a 2*n0+1 ) do b 5 7",
            "go 7 go 5 go 11")

    def test_numbers_within_rounds_and_choices(self):
        self.assert_alike(
            "word a 2 ( again 1*n0+0 ( go 1*n1+0 turn 1*count+0 ) if 1*n1+-3 ( go 1*n0+9 ) else ( ) ) do a 2 3 do a 1 4",
            "go 3 turn 0 go 3 turn 1 go 4 turn 0 go 10")

    def test_counts_are_handed_in(self):
        self.assert_alike("word a 1 ( go 1*n0+0 ) again 3 ( do a 2*count+1 )", "go 1 go 3 go 5")

    def test_the_count_of_a_word_leaves_that_around_it(self):
        self.assert_alike(
            "word a 0 ( again 3 ( turn 1*count+0 ) ) again 2 ( do a go 1*count+5 )",
            "turn 0 turn 1 turn 2 go 5 turn 0 turn 1 turn 2 go 6")

    def test_words_that_do_words(self):
        self.assert_alike(
            "word a 0 ( go 1 ) word b 0 ( do a do a ) word c 0 ( do b turn 1 do a ) do c do b",
            "go 1 go 1 turn 1 go 1 go 1 go 1")

    def test_the_deepest_program(self):
        words = []
        for name in "abcdef":
            core = (("go", 1), ("do", words[-1][0], ())) if words else (("go", 1),)
            words.append((name, 0, nested(["again", "if"] * 3, core)))
        program = (tuple(words), nested(["if"] * 6, (("do", "f", ()),)))
        strokes, corners, end, turned, done = run(program, 4000)
        self.assertEqual((len(strokes), len(corners), end[0], turned, done), (6, 7, at(6), 0, True))

    def test_names_like_statements(self):
        self.assert_alike("word go 1 ( turn 1*n0+0 ) word up 0 ( go 1 ) do go 3 do up up", "turn 3 go 1 up")


class TellingTest(RunCase):
    def test_the_lists_are_the_asker_s(self):
        program = read("mark 1 go 1 turn 1 go 2 back 1 go 3")
        first = run(program, 4000)
        kept = copy.deepcopy(first)
        first[0].clear()
        first[1].append("something")
        first[1][0] = None
        self.assertEqual(run(program, 4000), kept)
        second = run(program, 4000)
        self.assertIsNot(second[0], first[0])
        self.assertIsNot(second[1], first[1])

    def test_the_lists_of_the_program_without_anything(self):
        first = run(((), ()), 0)
        first[0].append(1)
        first[1].append(1)
        self.assertEqual(run(((), ()), 0), ([], [BEGINNING], (BEGINNING, 0, True, 0), 0, True))

    def test_the_program_stays(self):
        kept = copy.deepcopy(SAMPLE)
        first = run(SAMPLE, 4000)
        self.assertEqual(SAMPLE, kept)
        self.assertEqual(run(SAMPLE, 4000), first)

    def test_the_sample(self):
        self.assertEqual(run(SAMPLE, 4000), SecondHand(SAMPLE, 4000).told())


class LotsTest(RunCase):
    def test_as_a_second_hand_does(self):
        done = refused = 0
        for program in programs(500, seed=2):
            for most in (7, 60, 4000):
                with self.subTest(program=shown(program), most=most):
                    second = SecondHand(program, most)
                    try:
                        answer = run(program, most)
                    except HouseError as error:
                        self.assertEqual(error.__class__.__name__, second.refused)
                        refused += 1
                    else:
                        self.assertIsNone(second.refused)
                        self.assertEqual(answer, second.told())
                        done += answer[4]
        self.assertGreater(done, 500)
        self.assertGreater(refused, 50)


if __name__ == "__main__":
    unittest.main()
