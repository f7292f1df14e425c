"""Point 16: programs put in."""

import unittest

from tests.makings import SecondHand, programs
from tests.samples import MOST, SAMPLE
from turtlehouse.errors import HouseError, NoMark, TooGreat, TooLong
from turtlehouse.notes import read, shown
from turtlehouse.plain import put_in
from turtlehouse.programs import check
from turtlehouse.runs import run


class PlainCase(unittest.TestCase):
    def assert_plain(self, program):
        self.assertIs(check(program), True)
        words, body = program
        self.assertEqual(words, ())
        for statement in body:
            self.assertIn(statement[0], ("go", "turn", "up", "down", "ink"))
            for amount in statement[1:]:
                self.assertIs(type(amount), int)

    def assert_put_in(self, text, wanted, most=2000):
        with self.subTest(text=text):
            program = read(text)
            self.assertEqual(put_in(program, most), read(wanted))
            self.assertEqual(put_in(program, most), read(wanted))
            self.assert_plain(put_in(program, most))

    def assert_does_the_same(self, program, most=2000):
        """The same strokes and the same end, and at most twelve statements for each back."""
        with self.subTest(program=shown(program)):
            plain = put_in(program, most)
            self.assert_plain(plain)
            self.assertEqual(put_in(program, most), plain)
            whole = run(program, most)
            other = run(plain, len(plain[1]))
            self.assertEqual(other[0], whole[0])
            self.assertEqual(other[2], whole[2])
            self.assertIs(other[4], True)
            second = SecondHand(program, most)
            self.assertLessEqual(len(plain[1]), len(second.plain) + 12 * second.backs)
            if second.backs == 0:
                self.assertEqual(plain[1], tuple(second.plain))
            return plain

    def assert_refused(self, error, text, most=2000):
        with self.subTest(text=text, most=most):
            for _ in range(2):
                with self.assertRaises(HouseError) as caught:
                    put_in(read(text), most)
                self.assertIs(type(caught.exception), error)


class WithoutBacksTest(PlainCase):
    def test_nothing(self):
        self.assert_put_in("", "", 0)
        self.assert_put_in("word a 0 ( go 1 )", "", 0)
        self.assert_put_in("mark 1 again 0 ( ) if 1 ( ) else ( )", "")

    def test_plain_programs_stay(self):
        for text in ("go 1", "go 0", "turn 0", "turn 9", "up", "down", "up up down", "ink 13", "ink -5", "go -1000000",
                     "go 1 go 1 turn 1 turn -1 ink 0 ink 0 down"):
            self.assert_put_in(text, text)

    def test_marks_are_left_out(self):
        self.assert_put_in("mark 1 go 1 mark 2 turn 1 mark 1", "go 1 turn 1")

    def test_rounds_choices_and_words(self):
        self.assert_put_in("again 3 ( go 1*count+0 up )", "go 0 up go 1 up go 2 up")
        self.assert_put_in("if 1 ( go 1 ) else ( go 2 ) if 0 ( go 1 ) else ( go 2 )", "go 1 go 2")
        self.assert_put_in(
            "word a 2 ( ink 2*n0+1 turn -1*n1+0 ) do a 3 4 again 2 ( do a 1*count+9 0 )",
            "ink 7 turn -4 ink 19 turn 0 ink 21 turn 0")

    def test_the_example(self):
        self.assert_put_in(
            "word side 1 ( go 1*n0+-2 turn 1 ) again 8 ( do side 2*count+5 )",
            "go 3 turn 1 go 5 turn 1 go 7 turn 1 go 9 turn 1 go 11 turn 1 go 13 turn 1 go 15 turn 1 go 17 turn 1")

    def test_by_lot(self):
        many = 0
        for program in programs(150, seed=4, backs=False):
            if run(program, 2000)[4]:
                self.assert_does_the_same(program)
                many += 1
        self.assertGreater(many, 100)

    def test_two_thousand_deeds(self):
        body = (("go", 1), ("turn", 1)) * 1000
        self.assertEqual(put_in(((), body), 2000), ((), body))


class BacksTest(PlainCase):
    def test_back_to_where_it_is(self):
        for text in ("mark 1 back 1", "up mark 1 back 1", "mark 1 turn 3 back 1", "mark 1 go 5 go -5 back 1 go 1"):
            self.assert_does_the_same(read(text))

    def test_back_by_each_heading(self):
        for heading in range(8):
            for steps in (1, 3, -2, MOST, -MOST):
                for behind in range(8):
                    self.assert_does_the_same(read(f"turn {heading} mark 1 go {steps} turn {behind} back 1 go 2"))

    def test_back_from_anywhere(self):
        way = "go {} turn 1 go {} turn 1 go {} turn 1 go {} turn {}"
        for numbers in ((1, 2, 3, 4), (5, -2, 0, 0), (0, 0, 7, 1), (-3, 0, 0, -3), (9, 9, -9, -9), (0, 1, 0, 1)):
            for heading in range(8):
                text = "turn 3 mark 1 " + way.format(*numbers, heading) + " back 1 turn 1 go 1"
                self.assert_does_the_same(read(text))

    def test_pen_and_ink(self):
        for pen in ("up", "down", "up down", "down up"):
            for text in (f"mark 1 {pen} ink 5 go 3 turn 3 back 1", f"{pen} mark 1 ink 3 go 3 turn 1 back 1 go 1",
                         f"mark 1 go 1 {pen} turn 1 go 2 back 1 go 1 down go 3 back 1 up"):
                self.assert_does_the_same(read(text))

    def test_nothing_is_drawn_by_a_back(self):
        plain = put_in(read("mark 1 go 3 turn 1 go 2 back 1"), 2000)
        self.assertEqual(len(run(plain, 4000)[0]), 2)

    def test_the_greatest_number_of_statements(self):
        program = read("turn 3 mark 1 turn 1 go 1 turn 1 go 2 turn 1 go 4 turn 1 go 8 turn 1 back 1")
        plain = self.assert_does_the_same(program)
        self.assertLessEqual(len(plain[1]), 10 + 12)

    def test_marks_made_again_and_in_words(self):
        for text in (
            "mark 1 go 1 mark 1 go 1 back 1 go 5",
            "word a 0 ( mark 1 go 1 turn 1 ) word b 0 ( back 1 go 2 ) do a do b do a do b do b",
            "mark 0 again 9 ( go 1*count+1 turn 1 back 0 turn 1*count+0 mark 0 go 1 )",
        ):
            self.assert_does_the_same(read(text))

    def test_the_sample(self):
        self.assert_does_the_same(SAMPLE)

    def test_by_lot(self):
        same = refused = 0
        for program in programs(400, seed=5):
            second = SecondHand(program, 2000)
            if second.refused is None and second.done and second.backs <= 100:
                self.assert_does_the_same(program)
                same += second.backs > 0
            else:
                wanted = {"NoMark": NoMark, "TooGreat": TooGreat, None: TooLong}[second.refused]
                self.assert_refused(wanted, shown(program))
                refused += 1
        self.assertGreater(same, 100)
        self.assertGreater(refused, 20)


class TooLongTest(PlainCase):
    def test_where_the_run_would_be_stopped(self):
        for text, deeds in (("go 1", 1), ("again 2 ( )", 3), ("go 1 turn 1 up", 3), ("again 2 ( go 1 )", 5),
                            ("word a 0 ( ) do a", 1), ("mark 1 back 1", 2)):
            for most in range(deeds):
                self.assert_refused(TooLong, text, most)
            put_in(read(text), deeds)
        self.assert_refused(TooLong, "again 1000000 ( )")
        self.assert_refused(TooLong, "again 2000 ( )")
        put_in(read("again 1999 ( )"), 2000)

    def test_a_hundred_backs(self):
        for text in ("mark 1 again {} ( go 1 turn 1 back 1 )", "mark 1 again {} ( back 1 )"):
            self.assert_does_the_same(read(text.format(100)))
            self.assert_refused(TooLong, text.format(101))
            self.assert_refused(TooLong, text.format(300))

    def test_backs_are_counted_as_they_are_done(self):
        back = ("back", 1)
        body = (("mark", 1), ("if", 0, (back,) * 200, (back,) * 100))
        self.assert_does_the_same(((), body))
        self.assertEqual(put_in(((), (("again", 0, (back,) * 101),)), 2000), ((), ()))


class TooGreatTest(PlainCase):
    def test_what_the_run_refuses(self):
        self.assert_refused(TooGreat, "word a 1 ( go 1*n0+1 ) do a 1000000")
        self.assert_refused(NoMark, "back 1")

    def test_one_of_the_four_beyond_a_million(self):
        for heading in range(8):
            for sign in ("", "-"):
                just = f"mark 1 turn {heading} go {sign}999999 go {sign}1 back 1 go 1"
                self.assert_does_the_same(read(just))
                self.assert_refused(TooGreat, f"mark 1 turn {heading} go {sign}1000000 go {sign}1 back 1 go 1")

    def test_the_way_there_counts_not_the_place(self):
        self.assert_does_the_same(read("go 1000000 go 1000000 mark 1 go 1000000 back 1"))
        self.assert_does_the_same(read("mark 1 go 1000000 go 1000000 go -1000000 back 1"))
        self.assert_refused(TooGreat, "go -1 mark 1 go 1000000 go 1 back 1")

    def test_each_of_the_four_by_itself(self):
        text = "mark 1 go 1000000 turn 1 go 1000000 turn 1 go 1000000 turn 5 go 1000000 back 1"
        self.assert_does_the_same(read(text))
        for at in range(4):
            steps = [0, 0, 0, 0]
            steps[at] = 1
            more = f"go {steps[0]} turn 1 go {steps[1]} turn 1 go {steps[2]} turn 5 go {steps[3]}"
            self.assert_refused(TooGreat, text.replace("back 1", f"turn 1 {more} back 1"))

    def test_the_four_are_steps_and_not_ints_of_the_place(self):
        # To the north-east and the south-east together: two millions in one int of the place.
        self.assert_does_the_same(read("mark 1 turn 1 go 1000000 turn -2 go 1000000 back 1"))
        self.assert_refused(TooGreat, "mark 1 turn 1 go 1000000 turn -2 go 1000000 turn 2 go 1 back 1")


class OrderTest(PlainCase):
    FAR = "mark 1 go 1000000 go 1000000 back 1"

    def test_what_the_run_refuses_goes_ahead_of_too_many_backs(self):
        many = "mark 1 again 101 ( back 1 )"
        self.assert_refused(TooLong, many)
        self.assert_refused(NoMark, many + " back 2")
        self.assert_refused(TooGreat, "word a 1 ( go 2*n0+0 ) " + many + " do a 1000000")

    def test_what_the_run_refuses_goes_ahead_of_a_mark_too_far(self):
        self.assert_refused(NoMark, self.FAR + " back 2")

    def test_what_is_behind_the_last_deed_is_not_refused_by_the_run(self):
        self.assert_refused(TooLong, "go 1 back 2", 1)
        self.assert_refused(NoMark, "go 1 back 2", 2)
        self.assert_refused(NoMark, "go 1 back 2 go 1", 2)

    def test_too_long_goes_ahead_of_a_mark_too_far(self):
        self.assert_refused(TooGreat, self.FAR, 4)
        self.assert_refused(TooLong, self.FAR, 3)
        self.assert_refused(TooLong, self.FAR + " go 1", 4)
        self.assert_refused(TooGreat, self.FAR + " go 1", 5)
        self.assert_refused(TooLong, self.FAR + " again 100 ( back 1 )")
        self.assert_refused(TooGreat, self.FAR + " again 99 ( back 1 )")


if __name__ == "__main__":
    unittest.main()
