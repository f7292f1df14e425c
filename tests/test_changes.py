"""Point 24: programs mirrored, larger and turned."""

import copy
import unittest

from tests.makings import programs
from tests.samples import EACH_STATEMENT, MOST, SAMPLE
from turtlehouse.changes import larger, mirrored, turned
from turtlehouse.errors import NoMark, TooGreat, TooLong
from turtlehouse.floor import mirrored_place, turned_place
from turtlehouse.notes import read, shown
from turtlehouse.programs import check, size_of
from turtlehouse.runs import run


def of_place(program_run, change):
    """The strokes, the corners and the end's place, each place by a change."""
    strokes, corners, end, _, _ = program_run
    return ([(ink, change(start), change(goal)) for ink, start, goal in strokes],
            [change(corner) for corner in corners], change(end[0]))


def enlarged_place(place, factor):
    return tuple((factor * number[0], factor * number[1]) for number in place)


class ChangesCase(unittest.TestCase):
    def change(self, changer, program, *more):
        """What a change tells, which is a program and leaves the other as it is."""
        kept = copy.deepcopy(program)
        told = changer(program, *more)
        self.assertEqual(program, kept)
        self.assertEqual(changer(program, *more), told)
        self.assertIs(type(told), tuple)
        self.assertIs(check(told), True)
        return told

    def assert_text(self, text, changer, *more, told):
        with self.subTest(text=text):
            self.assertEqual(shown(self.change(changer, read(text), *more)), told)

    def run_or_refusal(self, program, most):
        try:
            return run(program, most)
        except (NoMark, TooGreat) as refusal:
            return type(refusal)

    def programs_and_runs(self, many, seed, most=300):
        done = 0
        for program in [SAMPLE, *programs(many, seed=seed)]:
            told = self.run_or_refusal(program, most)
            done += isinstance(told, tuple) and len(told[0]) > 2
            yield program, told
        self.assertGreater(done, many // 5)


class MirroredTest(ChangesCase):
    def test_each_statement(self):
        words = (("side", 0, EACH_STATEMENT[:-1]),)
        program = (words, EACH_STATEMENT)
        other = tuple(("turn", -1) if statement[0] == "turn" else statement for statement in EACH_STATEMENT)
        self.assertEqual(self.change(mirrored, program), ((("side", 0, other[:-1]),), other))

    def test_no_statements(self):
        self.assertEqual(self.change(mirrored, ((), ())), ((), ()))

    def test_ints(self):
        for amount in (0, 1, -1, 7, 8, MOST, -MOST):
            self.assertEqual(self.change(mirrored, ((), (("turn", amount),))), ((), (("turn", -amount),)))

    def test_times_and_more(self):
        self.assert_text("again 3 ( turn 2*count+5 turn -1*count+0 turn 0*count+-7 )", mirrored,
                         told="again 3 ( turn -2*count+-5 turn 1*count+0 turn 0*count+7 )")
        self.assert_text("word a 2 ( turn 1000000*n1+-1000000 ) do a 1 2", mirrored,
                         told="word a 2 ( turn -1000000*n1+1000000 ) do a 1 2")

    def test_other_amounts_stay(self):
        self.assert_text(
            "word a 1 ( go 2*n0+1 ink 2*n0+1 again 2*n0+1 ( ) if 2*n0+1 ( ) else ( ) ) do a 5 go 5 ink 5", mirrored,
            told="word a 1 ( go 2*n0+1 ink 2*n0+1 again 2*n0+1 ( ) if 2*n0+1 ( ) else ( ) ) do a 5 go 5 ink 5")

    def test_in_bodies(self):
        self.assert_text("again 2 ( turn 1 ) if 1 ( turn 2 ) else ( turn 3 )", mirrored,
                         told="again 2 ( turn -1 ) if 1 ( turn -2 ) else ( turn -3 )")
        self.assert_text("again 1 ( if 1 ( again 1 ( turn 1 ) ) else ( if 1 ( turn 4 ) else ( turn 5 ) ) turn 6 )",
                         mirrored,
                         told="again 1 ( if 1 ( again 1 ( turn -1 ) ) else ( if 1 ( turn -4 ) else ( turn -5 ) )"
                              " turn -6 )")
        self.assert_text("word a 0 ( turn 1 ) word b 1 ( again 2 ( turn 1*n0+2 ) do a ) do b 1 turn 3", mirrored,
                         told="word a 0 ( turn -1 ) word b 1 ( again 2 ( turn -1*n0+-2 ) do a ) do b 1 turn -3")

    def test_six_deep(self):
        text = "again 1 ( " * 6 + "turn 1" + " )" * 6
        self.assert_text(text, mirrored, told=text.replace("turn 1", "turn -1"))

    def test_a_word_named_turn(self):
        self.assert_text("word turn 1 ( go 1*n0+0 ) do turn 5", mirrored, told="word turn 1 ( go 1*n0+0 ) do turn 5")

    def test_the_run(self):
        for program, told in self.programs_and_runs(200, seed=31):
            other = self.change(mirrored, program)
            self.assertEqual(self.change(mirrored, other), program)
            self.assertEqual(size_of(other), size_of(program))
            for most in (0, 1, 7, 300):
                first, second = self.run_or_refusal(program, most), self.run_or_refusal(other, most)
                if not isinstance(first, tuple):
                    self.assertEqual(second, first)
                    continue
                self.assertEqual(of_place(second, lambda place: place), of_place(first, mirrored_place))
                place, heading, down, ink = first[2]
                self.assertEqual(second[2], (mirrored_place(place), -heading % 8, down, ink))
                self.assertEqual(second[3:], (-first[3], first[4]))


class LargerTest(ChangesCase):
    def assert_refused(self, text, factor):
        with self.subTest(text=text, factor=factor):
            with self.assertRaises(TooGreat):
                larger(read(text), factor)

    def test_each_statement(self):
        words = (("side", 0, EACH_STATEMENT[:-1]),)
        program = (words, EACH_STATEMENT)
        for factor in (1, 2, 1000):
            other = tuple(("go", factor) if statement[0] == "go" else statement for statement in EACH_STATEMENT)
            self.assertEqual(self.change(larger, program, factor), ((("side", 0, other[:-1]),), other))

    def test_no_statements(self):
        self.assertEqual(self.change(larger, ((), ()), 1000), ((), ()))

    def test_once_is_the_same(self):
        for program in [SAMPLE, *programs(50, seed=32)]:
            self.assertEqual(self.change(larger, program, 1), program)

    def test_ints(self):
        for amount in (0, 1, -1, 7, -1000, 1000):
            for factor in (1, 2, 3, 999, 1000):
                self.assertEqual(self.change(larger, ((), (("go", amount),)), factor), ((), (("go", amount * factor),)))

    def test_times_and_more(self):
        self.assert_text("again 3 ( go 2*count+5 go -1*count+0 go 0*count+-7 )", larger, 3,
                         told="again 3 ( go 6*count+15 go -3*count+0 go 0*count+-21 )")

    def test_other_amounts_stay(self):
        text = "word a 1 ( turn 2*n0+1 ink 2*n0+1 again 2*n0+1 ( ) if 2*n0+1 ( ) else ( ) ) do a 5 turn 5 ink 5"
        self.assert_text(text, larger, 7, told=text)
        self.assert_text("turn 1000000 ink -1000000 again 1000000 ( )", larger, 1000,
                         told="turn 1000000 ink -1000000 again 1000000 ( )")

    def test_in_bodies(self):
        self.assert_text("again 2 ( go 1 ) if 1 ( go 2 ) else ( go 3 )", larger, 10,
                         told="again 2 ( go 10 ) if 1 ( go 20 ) else ( go 30 )")
        self.assert_text("word a 0 ( go 1 ) word b 1 ( again 2 ( go 1*n0+2 ) do a ) do b 1 go 3", larger, 10,
                         told="word a 0 ( go 10 ) word b 1 ( again 2 ( go 10*n0+20 ) do a ) do b 1 go 30")

    def test_a_million_just_and_one_beyond(self):
        for sign in ("", "-"):
            for factor, just in ((1, 1000000), (2, 500000), (1000, 1000), (7, 142857)):
                for frame in ("go {}", "again 2 ( go {} )", "if 1 ( go {} ) else ( )", "if 1 ( ) else ( go {} )",
                              "word a 0 ( go {} )", "word a 1 ( if 1*n0+0 ( again 1 ( go {} ) ) else ( ) )",
                              "again 0 ( go {}*count+0 )", "again 0 ( go 0*count+{} )", "go 1 go {} turn 3",
                              "word a 4 ( go {}*n3+0 )", "word a 4 ( go 0*n2+{} ) do a 1 2 3 4"):
                    told = frame.format(f"{sign}{just * factor}").replace("go 1 ", f"go {factor} ")
                    self.assert_text(frame.format(f"{sign}{just}"), larger, factor, told=told)
                    if factor > 1:
                        self.assert_refused(frame.format(f"{sign}{just + 1}"), factor)
                        self.assert_refused(frame.format(f"{sign}1000000"), factor)

    def test_far_too_great(self):
        self.assert_refused("go 1000000", 1000)
        self.assert_refused("go -1000000", 1000)
        self.assert_refused("go 1 " * 50 + "go 1001", 1000)

    def test_the_run_may_be_refused_where_the_other_is_not(self):
        program = read("word a 1 ( go 1000*n0+0 ) do a 1000")
        self.assertEqual(run(program, 9)[2][0], ((1000000, 0), (0, 0)))
        other = self.change(larger, program, 2)
        with self.assertRaises(TooGreat):
            run(other, 9)

    def test_the_run(self):
        for program, told in self.programs_and_runs(200, seed=33):
            for factor in (1, 2, 5, 1000):
                other = self.change(larger, program, factor)
                self.assertEqual(size_of(other), size_of(program))
                for most in (0, 1, 9, 300):
                    first, second = self.run_or_refusal(program, most), self.run_or_refusal(other, most)
                    if not isinstance(first, tuple):
                        self.assertIn(second, (first, TooGreat))
                        continue
                    if factor == 1000 and second == TooGreat:
                        continue
                    self.assertEqual(of_place(second, lambda place: place),
                                     of_place(first, lambda place: enlarged_place(place, factor)))
                    self.assertEqual(second[2][1:], first[2][1:])
                    self.assertEqual(second[3:], first[3:])


class TurnedTest(ChangesCase):
    def test_ahead_of_all(self):
        for eighths in range(8):
            self.assert_text("", turned, eighths, told=f"turn {eighths}")
            self.assert_text("turn 1 go 2", turned, eighths, told=f"turn {eighths} turn 1 go 2")
            self.assert_text("word a 0 ( go 1 ) again 2 ( do a )", turned, eighths,
                             told=f"word a 0 ( go 1 ) turn {eighths} again 2 ( do a )")

    def test_each_statement_stays(self):
        program = ((("side", 0, EACH_STATEMENT[:-1]),), EACH_STATEMENT)
        self.assertEqual(self.change(turned, program, 3), (program[0], (("turn", 3),) + EACH_STATEMENT))

    def sized(self, size):
        """Programs of that size, its statements in unlike bodies."""
        go = ("go", 1)
        yield ((), (go,) * size)
        yield ((("a", 0, (go,) * size),), ())
        yield ((), (("again", 1, (go,) * (size - 1)),))
        yield ((("a", 0, (go,) * 1000),), (("if", 1, (go,) * 1000, (go,) * 1000),) + (go,) * (size - 3001))

    def test_size(self):
        for eighths in range(8):
            for program in self.sized(3999):
                self.assertEqual(size_of(program), 3999)
                self.assertEqual(size_of(self.change(turned, program, eighths)), 4000)
            for program in self.sized(4000):
                self.assertIs(check(program), True)
                with self.assertRaises(TooLong):
                    turned(program, eighths)

    def test_the_run(self):
        for program, told in self.programs_and_runs(200, seed=34):
            for eighths in range(8):
                other = self.change(turned, program, eighths)
                for most in (0, 1, 9, 300):
                    first, second = self.run_or_refusal(program, most), self.run_or_refusal(other, most + 1)
                    if not isinstance(first, tuple):
                        self.assertEqual(second, first)
                        continue
                    self.assertEqual(of_place(second, lambda place: place),
                                     of_place(first, lambda place: turned_place(place, eighths)))
                    place, heading, down, ink = first[2]
                    self.assertEqual(second[2], (turned_place(place, eighths), (heading + eighths) % 8, down, ink))
                    self.assertEqual(second[3:], (first[3] + eighths, first[4]))

    def test_all_three(self):
        for program, told in self.programs_and_runs(60, seed=35):
            if not isinstance(told, tuple):
                continue
            other = self.change(turned, self.change(larger, self.change(mirrored, program), 3), 5)
            second = self.run_or_refusal(other, 301)
            self.assertEqual(of_place(second, lambda place: place), of_place(
                told, lambda place: turned_place(enlarged_place(mirrored_place(place), 3), 5)))


if __name__ == "__main__":
    unittest.main()
