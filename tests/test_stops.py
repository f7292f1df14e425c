"""Points 14 and 15: where a run is stopped, and what it refuses."""

import unittest

from tests.makings import SecondHand, programs
from tests.samples import MOST, SAMPLE, nested
from turtlehouse.errors import HouseError, NoMark, TooGreat
from turtlehouse.notes import read, shown
from turtlehouse.runs import run

BEGINNING = ((0, 0), (0, 0))


class StopCase(unittest.TestCase):
    def assert_done_by(self, text, deeds):
        """Done by just so many deeds, and not by any fewer."""
        program = read(text)
        for most in range(deeds):
            with self.subTest(text=text, most=most):
                self.assertIs(run(program, most)[4], False)
        whole = run(program, deeds)
        for most in (deeds, deeds + 1, deeds + 2, 4000):
            with self.subTest(text=text, most=most):
                self.assertIs(run(program, most)[4], True)
                self.assertEqual(run(program, most), whole)

    def assert_refused(self, text, deeds, error):
        """Refused where a deed of that number is begun, and not by fewer ones."""
        program = read(text)
        for most in range(deeds):
            with self.subTest(text=text, most=most):
                self.assertIs(run(program, most)[4], False)
        for most in (deeds, deeds + 1, deeds + 2, 4000):
            with self.subTest(text=text, most=most):
                with self.assertRaises(HouseError) as caught:
                    run(program, most)
                self.assertIs(type(caught.exception), error)


class DeedsTest(StopCase):
    def test_no_deeds(self):
        self.assertEqual(run(read("go 1 turn 1"), 0), ([], [BEGINNING], (BEGINNING, 0, True, 0), 0, False))
        self.assertEqual(run(read(""), 0), ([], [BEGINNING], (BEGINNING, 0, True, 0), 0, True))

    def test_the_words_are_no_deeds(self):
        self.assert_done_by("word a 0 ( go 1 turn 1 ) word b 0 ( )", 0)

    def test_each_single_statement(self):
        for text in ("go 1", "go 0", "turn 1", "up", "down", "ink 1", "mark 1"):
            self.assert_done_by(text, 1)
        self.assert_done_by("mark 1 back 1", 2)
        self.assert_done_by("go 1 turn 1 go 1", 3)

    def test_rounds_of_an_empty_body(self):
        for times in range(-2, 6):
            self.assert_done_by(f"again {times} ( )", 1 + max(times, 0))

    def test_rounds(self):
        self.assert_done_by("again 1 ( go 1 )", 3)
        self.assert_done_by("again 2 ( go 1 )", 5)
        self.assert_done_by("again 3 ( go 1 turn 1 )", 10)
        self.assert_done_by("again 0 ( go 1 )", 1)
        self.assert_done_by("again -5 ( go 1 )", 1)
        self.assert_done_by("go 1 again 2 ( ) go 1", 5)

    def test_rounds_within_rounds(self):
        self.assert_done_by("again 2 ( again 3 ( ) )", 1 + 2 * (1 + 1 + 3))
        self.assert_done_by("again 2 ( again 3 ( up ) down )", 1 + 2 * (1 + 1 + 3 * 2 + 1))
        self.assert_done_by("again 3 ( again 1*count+0 ( ) )", 1 + 3 * 2 + 0 + 1 + 2)

    def test_choices(self):
        self.assert_done_by("if 1 ( ) else ( )", 1)
        self.assert_done_by("if 0 ( ) else ( )", 1)
        self.assert_done_by("if 1 ( go 1 ) else ( )", 2)
        self.assert_done_by("if 0 ( go 1 ) else ( )", 1)
        self.assert_done_by("if 0 ( go 1 ) else ( go 1 turn 1 )", 3)
        self.assert_done_by("if 1 ( if 1 ( ) else ( ) ) else ( )", 2)
        self.assert_done_by("if 1 ( again 2 ( ) ) else ( )", 4)

    def test_words(self):
        self.assert_done_by("word a 0 ( ) do a", 1)
        self.assert_done_by("word a 0 ( up ) do a", 2)
        self.assert_done_by("word a 0 ( up ) do a do a", 4)
        self.assert_done_by("word a 0 ( up ) word b 0 ( do a do a ) do b", 5)
        self.assert_done_by("word a 0 ( again 2 ( up ) ) again 2 ( do a )", 1 + 2 * (1 + 1 + 1 + 2 * 2))

    def test_the_sample(self):
        deeds = SecondHand(SAMPLE, 4000).deeds
        self.assert_done_by(shown(SAMPLE), deeds)

    def test_a_million_rounds(self):
        program = read("again 1000000 ( go 1 )")
        for most in range(0, 4001, 397):
            strokes, corners, end, turned, done = run(program, most)
            self.assertIs(done, False)
            # One for the again itself, then one for each round and one for each go in turn.
            self.assertEqual(len(strokes), max(most - 1, 0) // 2)
            self.assertEqual(len(corners), len(strokes) + 1)
            self.assertEqual(end[0], ((len(strokes), 0), (0, 0)))

    def test_a_million_rounds_of_nothing(self):
        self.assertIs(run(read("again 1000000 ( )"), 4000)[4], False)
        self.assertIs(run(read("again 1000000 ( again 1000000 ( again 1000000 ( ) ) )"), 4000)[4], False)
        self.assertIs(run(read("again 1000000 ( again 0 ( ) )"), 4000)[4], False)
        self.assertIs(run(read("again 3999 ( )"), 4000)[4], True)
        self.assertIs(run(read("again 4000 ( )"), 4000)[4], False)
        self.assertIs(run(read("again 1999 ( up )"), 4000)[4], True)
        self.assertIs(run(read("again 1999 ( up ) up"), 4000)[4], True)
        self.assertIs(run(read("again 2000 ( up )"), 4000)[4], False)

    def test_four_thousand_statements(self):
        self.assertIs(run(((), (("go", 1),) * 4000), 4000)[4], True)
        self.assertIs(run(((), (("go", 1),) * 4000), 3999)[4], False)

    def test_the_deepest_program(self):
        program = ((), nested(["again"] * 6))
        self.assert_done_by(shown(program), 12)


class StoppedTest(StopCase):
    TEXT = "word a 1 ( go 1*n0+0 turn 1 ) mark 0 ink 3 again 2 ( do a 1*count+5 up ) down back 0 if 1 ( go 2 ) else ( )"

    def test_stopped_at_each_number(self):
        """The beginnings of the whole run, one behind another."""
        half = ((5, 0), (0, 0))
        far = ((5, 6), (0, 6))
        first = (3, BEGINNING, half)
        last = (3, BEGINNING, ((2, 0), (0, 0)))
        wanted = [
            ([], [BEGINNING], (BEGINNING, 0, True, 0), 0, False),
            ([], [BEGINNING], (BEGINNING, 0, True, 0), 0, False),  # mark
            ([], [BEGINNING], (BEGINNING, 0, True, 3), 0, False),  # ink
            ([], [BEGINNING], (BEGINNING, 0, True, 3), 0, False),  # again
            ([], [BEGINNING], (BEGINNING, 0, True, 3), 0, False),  # its body
            ([], [BEGINNING], (BEGINNING, 0, True, 3), 0, False),  # do
            ([first], [BEGINNING, half], (half, 0, True, 3), 0, False),  # go
            ([first], [BEGINNING, half], (half, 1, True, 3), 1, False),  # turn
            ([first], [BEGINNING, half], (half, 1, False, 3), 1, False),  # up
            ([first], [BEGINNING, half], (half, 1, False, 3), 1, False),  # the body once more
            ([first], [BEGINNING, half], (half, 1, False, 3), 1, False),  # do
            ([first], [BEGINNING, half, far], (far, 1, False, 3), 1, False),  # go
            ([first], [BEGINNING, half, far], (far, 2, False, 3), 2, False),  # turn
            ([first], [BEGINNING, half, far], (far, 2, False, 3), 2, False),  # up
            ([first], [BEGINNING, half, far], (far, 2, True, 3), 2, False),  # down
            ([first], [BEGINNING, half, far, BEGINNING], (BEGINNING, 0, True, 3), 2, False),  # back
            ([first], [BEGINNING, half, far, BEGINNING], (BEGINNING, 0, True, 3), 2, False),  # if
            ([first, last], [BEGINNING, half, far, BEGINNING, last[2]], (last[2], 0, True, 3), 2, True),  # go
        ]
        for most, answer in enumerate(wanted):
            with self.subTest(most=most):
                self.assertEqual(run(read(self.TEXT), most), answer)

    def test_programs_by_lot_at_each_number(self):
        for program in programs(60, seed=3):
            for most in range(60):
                second = SecondHand(program, most)
                if second.refused is None:
                    with self.subTest(program=shown(program), most=most):
                        self.assertEqual(run(program, most), second.told())


class NoMarkTest(StopCase):
    def test_a_mark_that_was_not_made(self):
        for number in range(10):
            self.assert_refused(f"back {number}", 1, NoMark)
            self.assert_refused(f"mark {(number + 1) % 10} back {number}", 2, NoMark)
        self.assert_refused("back 1 mark 1", 1, NoMark)
        self.assert_refused("go 1 again 2 ( back 1 )", 4, NoMark)

    def test_a_mark_that_is_not_come_to(self):
        self.assert_refused("if 0 ( mark 1 ) else ( ) back 1", 2, NoMark)
        self.assert_refused("again 0 ( mark 1 ) back 1", 2, NoMark)
        self.assert_refused("word a 0 ( mark 1 ) back 1", 1, NoMark)

    def test_a_back_that_is_not_come_to(self):
        for text in ("if 1 ( ) else ( back 1 )", "again 0 ( back 1 )", "word a 0 ( back 1 )"):
            self.assertIs(run(read(text), 4000)[4], True)

    def test_made_in_a_round_before(self):
        self.assertIs(run(read("again 2 ( if 1*count+0 ( back 1 ) else ( mark 1 ) )"), 4000)[4], True)

    def test_nothing_of_a_run_before_is_kept(self):
        run(read("mark 1"), 4000)
        with self.assertRaises(NoMark):
            run(read("back 1"), 4000)


class TooGreatTest(StopCase):
    HANDED = "word a 1 ( {} ) do a {}"

    def test_just_a_million_is_not_too_great(self):
        for first in ("go {}", "turn {}", "ink {}", "if {} ( ) else ( )"):
            for amount, handed in (("1*n0+0", MOST), ("-1*n0+0", MOST), ("2*n0+0", MOST // 2), ("1*n0+1000000", 0),
                                   ("1*n0+-1000000", 0), ("-2*n0+0", MOST // 2), ("1000000*n0+0", -1)):
                text = self.HANDED.format(first.format(amount), handed)
                with self.subTest(text=text):
                    self.assertIs(run(read(text), 4000)[4], True)

    def test_beyond_a_million(self):
        for first in ("go {}", "turn {}", "ink {}", "if {} ( ) else ( )", "again {} ( )"):
            for amount, handed in (("1*n0+1", MOST), ("-1*n0+-1", MOST), ("2*n0+0", MOST // 2 + 1),
                                   ("1*n0+1000000", 1), ("1*n0+-1000000", -1), ("1000000*n0+0", -2),
                                   ("1000000*n0+1000000", MOST), ("-1000000*n0+-1000000", MOST)):
                self.assert_refused(self.HANDED.format(first.format(amount), handed), 2, TooGreat)

    def test_great_in_between_is_not_too_great(self):
        text = self.HANDED.format("go 2*n0+-1000000", MOST)
        self.assertEqual(run(read(text), 4000)[2][0], ((MOST, 0), (0, 0)))

    def test_by_count(self):
        text = "again 4 ( go 400000*count+0 )"
        # The again; three times its body and the go; the body and the go for the fourth time.
        self.assert_refused(text, 9, TooGreat)
        self.assertIs(run(read("again 3 ( go 500000*count+0 )"), 4000)[4], True)
        self.assert_refused("again 3 ( go 500001*count+0 )", 7, TooGreat)
        self.assert_refused("again 3 ( go -500001*count+0 )", 7, TooGreat)

    def test_the_amounts_of_a_do(self):
        for spot in range(4):
            amounts = ["1"] * 4
            amounts[spot] = "1*n0+1"
            text = f"word b 4 ( ) word a 1 ( do b {' '.join(amounts)} ) do a 1000000"
            self.assert_refused(text, 2, TooGreat)
            self.assertIs(run(read(text.replace("n0+1", "n0+0")), 4000)[4], True)

    def test_a_do_that_does_nothing_with_them(self):
        self.assert_refused("word b 1 ( ) again 2 ( do b 1000000*count+1 )", 5, TooGreat)

    def test_what_is_not_begun_is_not_refused(self):
        for text in (
            "again 3 ( if 1*count+-9 ( go 1000000*count+9 ) else ( ) )",
            "word a 1 ( go 2*n0+0 ) if 0 ( do a 1000000 ) else ( )",
            "word a 1 ( again -1*n0+0 ( go 2*n0+0 ) ) do a 1000000",
        ):
            with self.subTest(text=text):
                self.assertIs(run(read(text), 4000)[4], True)

    def test_the_one_that_is_begun_first(self):
        self.assert_refused("word a 1 ( go 1*n0+1 back 1 ) do a 1000000", 2, TooGreat)
        self.assert_refused("word a 1 ( back 1 go 1*n0+1 ) do a 1000000", 2, NoMark)
        self.assert_refused("word a 1 ( up again 1 ( back 1 ) go 1*n0+1 ) do a 1000000", 5, NoMark)

    def test_sums_of_many_are_not_too_great(self):
        answer = run(read("go 1000000 go 1000000 turn 1000000 turn 1000000"), 4000)
        self.assertEqual(answer[2][0], ((2 * MOST, 0), (0, 0)))
        self.assertEqual(answer[3], 2 * MOST)


if __name__ == "__main__":
    unittest.main()
