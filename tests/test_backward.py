"""Point 25: plain programs walked backwards."""

import itertools
import random
import unittest

from tests.makings import SecondHand, plain_body, programs
from tests.samples import MOST
from turtlehouse.backward import backwards
from turtlehouse.errors import HouseError
from turtlehouse.notes import read, shown
from turtlehouse.plain import put_in
from turtlehouse.programs import check, size_of
from turtlehouse.runs import run

AS_IT_BEGINS = (((0, 0), (0, 0)), 0, True, 0)


class BackwardTest(unittest.TestCase):
    def assert_back(self, program):
        with self.subTest(program=shown(program)[:200]):
            other = backwards(program)
            self.assertEqual(backwards(program), other)
            self.assertIs(check(other), True)
            self.assertEqual(other[0], ())
            for statement in other[1]:
                self.assertIn(statement[0], ("go", "turn", "up", "down", "ink"))
                self.assertTrue(all(type(amount) is int for amount in statement[1:]))
            self.assertLessEqual(size_of(program) + size_of(other), 4000)
            strokes = run(program, 4000)[0]
            back = [(ink, end, start) for ink, start, end in reversed(strokes)]
            both = ((), program[1] + other[1])
            told = run(both, 4000)
            self.assertEqual(told[0], strokes + back)
            self.assertEqual(told[2], AS_IT_BEGINS)
            self.assertIs(told[4], True)
            second = SecondHand(both, 4000)
            self.assertEqual(second.strokes, strokes + back)
            return other

    def assert_texts(self, *texts):
        for text in texts:
            self.assert_back(read(text))

    def test_no_statements(self):
        self.assertEqual(self.assert_back(((), ()))[1], ())

    def test_one_statement(self):
        for amount in (0, 1, -1, 5, 8, -13, MOST, -MOST):
            self.assert_texts(f"go {amount}", f"turn {amount}", f"ink {amount}")
        self.assert_texts("up", "down")

    def test_gos(self):
        for amount in (0, 1, -1, 5, MOST, -MOST):
            for heading in range(8):
                self.assert_texts(f"turn {heading} go {amount} go 2", f"go 3 turn {heading} go {amount}")

    def test_turns_of_a_million(self):
        self.assert_texts("turn 1000000 go 1 turn 1000000 go 2", "turn -1000000 go 1 turn -999999 go 2 turn -7",
                          "turn 999999 go 1", "go 1 turn 1000000 turn 1000000 turn 1000000 turn 3 go 1")

    def test_the_pen_is_up_at_the_end(self):
        self.assert_texts("go 1 up", "up go 1", "go 1 up go 2", "up go 1 down go 2 up", "go 2 up turn 3 go 1 up")

    def test_doubled_ups_and_downs(self):
        self.assert_texts("up up", "down down", "down go 1", "up up go 1 down down go 2", "down down go 1 up up go 2",
                          "up down go 1 down up go 1 up down up down go 2", "go 1 up go 1 up go 1 down go 1")

    def test_inks(self):
        for amount in (-1000000, -9, -8, -1, 0, 3, 7, 8, 9, 12, 1000000):
            self.assert_texts(f"ink {amount} go 1", f"go 1 ink {amount} go 1 ink 5 turn 2 go 1",
                              f"ink {amount} ink {amount} go 2 ink 1", f"go 1 ink {amount}")

    def test_gos_that_draw_nothing(self):
        self.assert_texts("go 0", "up go 1 go 0 go -1", "go 0 turn 1 go 0 up go 5", "go 1 go 0 go 1")

    def test_each_short_program(self):
        """Each body of three of these statements."""
        statements = (("go", 2), ("go", -1), ("turn", 3), ("up",), ("down",), ("ink", 9), ("ink", 0))
        for body in itertools.product(statements, repeat=3):
            self.assert_back(((), body))

    def test_the_same_way_twice(self):
        for seed in range(30):
            program = ((), plain_body(random.Random(seed), 20))
            strokes = run(program, 4000)[0]
            # Backwards once more it begins as a hand does: so it draws what the first one draws, from there.
            other = backwards(program)
            self.assert_back(other)
            self.assertEqual(len(run(backwards(other), 4000)[0]), len(run(other, 4000)[0]))
            self.assertEqual(run(((), program[1] + other[1] + program[1]), 4000)[0][2 * len(strokes):], strokes)

    def test_by_lot(self):
        for seed in range(100):
            self.assert_back(((), plain_body(random.Random(seed), seed, low=-20, high=20)))

    def test_programs_put_in(self):
        many = 0
        for program in programs(100, seed=41):
            try:
                plain = put_in(program, 400)
            except HouseError:
                continue
            many += 1
            self.assert_back(plain)
        self.assertGreater(many, 30)

    def test_nineteen_hundred_statements(self):
        self.assert_back(((), plain_body(random.Random(5), 1900)))
        self.assert_back(((), plain_body(random.Random(6), 1900, low=-MOST, high=MOST)))
        self.assert_back(((), (("up",), ("down",)) * 950))
        self.assert_back(((), (("go", 1), ("ink", 3)) * 950))

    def test_the_program_stays(self):
        body = (("go", 1), ("up",), ("turn", 3))
        program = ((), body)
        backwards(program)
        self.assertEqual(program, ((), (("go", 1), ("up",), ("turn", 3))))


if __name__ == "__main__":
    unittest.main()
