"""Points 4, 5 and 6: numbers of the house, and places on the floor."""

import unittest
from decimal import Decimal, localcontext

from turtlehouse.floor import mirrored_place, moved, sign_of, turned_place

FAR = 10 ** 12
BEGINNING = ((0, 0), (0, 0))
PLACES = (
    BEGINNING,
    ((3, 1), (2, 5)),
    ((3, 2), (-2, -4)),
    ((-7, -3), (0, 1)),
    ((0, 0), (-5, 8)),
    ((FAR, FAR - 1), (1 - FAR, 1 - FAR)),
    ((-FAR, FAR), (FAR, -FAR)),
)


def sign_by_decimals(number):
    """The sign by a root of two that is told to some hundred figures."""
    with localcontext() as context:
        context.prec = 400
        value = Decimal(number[0]) + Decimal(number[1]) * Decimal(2).sqrt() / 2
        return (value > 0) - (value < 0)


def near_numbers(many):
    """Pairs (a, b), ever larger, with b times half the root of two next to a."""
    whole, part = 1, 1
    for _ in range(many):
        # 2 * whole ** 2 - part ** 2 is 1 or -1 each time, as near to 0 as it comes.
        yield whole, part
        whole, part = whole + part, 2 * whole + part


class FloorCase(unittest.TestCase):
    def assert_place(self, place):
        self.assertIs(type(place), tuple)
        self.assertEqual(len(place), 2)
        for number in place:
            self.assertIs(type(number), tuple)
            self.assertEqual([type(part) for part in number], [int, int])
        self.assertEqual((place[0][1] - place[1][1]) % 2, 0)


class SignTest(FloorCase):
    def assert_sign(self, number, sign):
        with self.subTest(number=number):
            answer = sign_of(number)
            self.assertEqual(answer, sign)
            self.assertIs(type(answer), int)
            self.assertEqual(sign_of(number), sign)

    def test_one_int_alone(self):
        self.assert_sign((0, 0), 0)
        for value in (1, 2, 7, FAR, FAR + 1, 10 ** 40):
            self.assert_sign((value, 0), 1)
            self.assert_sign((0, value), 1)
            self.assert_sign((-value, 0), -1)
            self.assert_sign((0, -value), -1)

    def test_both_pull_the_same_way(self):
        for one in (1, 5, FAR):
            for other in (1, 5, FAR):
                self.assert_sign((one, other), 1)
                self.assert_sign((-one, -other), -1)

    def test_both_pull_apart(self):
        # Half the root of two is some 0.7071.
        self.assert_sign((1, -1), 1)
        self.assert_sign((-1, 1), -1)
        self.assert_sign((1, -2), -1)
        self.assert_sign((-1, 2), 1)
        self.assert_sign((5, -7), 1)
        self.assert_sign((7, -10), -1)
        self.assert_sign((-5, 7), -1)
        self.assert_sign((-7, 10), 1)

    def test_all_small_ones(self):
        for first in range(-40, 41):
            for second in range(-40, 41):
                self.assert_sign((first, second), sign_by_decimals((first, second)))

    def test_very_near_to_0(self):
        for whole, part in near_numbers(120):
            above = 2 * whole * whole > part * part
            self.assert_sign((whole, -part), 1 if above else -1)
            self.assert_sign((-whole, part), -1 if above else 1)
            self.assertEqual(sign_of((whole, -part)), sign_by_decimals((whole, -part)))

    def test_near_numbers_reach_far_enough(self):
        pairs = list(near_numbers(120))
        self.assertGreater(pairs[-1][0], 10 ** 40)
        # Numbers with a point can't tell these from 0; the test is to hold some of them.
        blind = [pair for pair in pairs if pair[0] - pair[1] * 2 ** 0.5 / 2 == 0]
        self.assertTrue(blind)

    def test_just_beside_far_numbers(self):
        for whole, part in near_numbers(40):
            for aside in (-1, 0, 1):
                number = (FAR * whole + aside, -FAR * part)
                self.assert_sign(number, sign_by_decimals(number))


class MovedTest(FloorCase):
    def test_three_steps_by_each_heading(self):
        place = ((10, 4), (20, 6))
        behind = (
            ((13, 4), (20, 6)),
            ((10, 7), (20, 9)),
            ((10, 4), (23, 6)),
            ((10, 1), (20, 9)),
            ((7, 4), (20, 6)),
            ((10, 1), (20, 3)),
            ((10, 4), (17, 6)),
            ((10, 7), (20, 3)),
        )
        for heading in range(8):
            with self.subTest(heading=heading):
                self.assertEqual(moved(place, heading, 3), behind[heading])
                self.assertEqual(moved(place, heading, 3), behind[heading])

    def test_steps_below_0_go_the_other_way(self):
        for place in PLACES:
            for heading in range(8):
                for steps in (1, 2, 999, FAR):
                    with self.subTest(place=place, heading=heading, steps=steps):
                        other_way = moved(place, (heading + 4) % 8, steps)
                        self.assertEqual(moved(place, heading, -steps), other_way)

    def test_no_steps(self):
        for place in PLACES:
            for heading in range(8):
                self.assertEqual(moved(place, heading, 0), place)

    def test_there_and_back(self):
        for place in PLACES:
            for heading in range(8):
                for steps in (0, 1, -1, 17, -1000000, FAR, -FAR, 10 ** 30):
                    with self.subTest(place=place, heading=heading, steps=steps):
                        there = moved(place, heading, steps)
                        self.assert_place(there)
                        self.assertEqual(moved(there, heading, -steps), place)

    def test_many_steps_are_as_many_single_ones(self):
        for heading in range(8):
            place = PLACES[1]
            for steps in range(25):
                self.assertEqual(moved(PLACES[1], heading, steps), place)
                place = moved(place, heading, 1)

    def test_very_many_steps_are_exact(self):
        self.assertEqual(moved(BEGINNING, 0, 10 ** 30 + 1), ((10 ** 30 + 1, 0), (0, 0)))
        self.assertEqual(moved(BEGINNING, 3, 10 ** 30 + 1), ((0, -10 ** 30 - 1), (0, 10 ** 30 + 1)))
        self.assertEqual(moved(BEGINNING, 6, FAR), ((0, 0), (-FAR, 0)))
        self.assertEqual(moved(BEGINNING, 7, FAR), ((0, FAR), (0, -FAR)))

    def test_a_round_of_all_headings_comes_back(self):
        place = PLACES[2]
        for heading in range(8):
            place = moved(place, heading, 5)
        self.assertEqual(place, PLACES[2])


class TurnedTest(FloorCase):
    def test_each_eighth_of_one_place(self):
        turned = (
            ((3, 1), (2, 5)),
            ((-2, 1), (3, 5)),
            ((-2, -5), (3, 1)),
            ((-3, -5), (-2, 1)),
            ((-3, -1), (-2, -5)),
            ((2, -1), (-3, -5)),
            ((2, 5), (-3, -1)),
            ((3, 5), (2, -1)),
            ((3, 1), (2, 5)),
        )
        for eighths in range(9):
            with self.subTest(eighths=eighths):
                self.assertEqual(turned_place(((3, 1), (2, 5)), eighths), turned[eighths])
                self.assertEqual(turned_place(((3, 1), (2, 5)), eighths), turned[eighths])

    def test_the_beginning_stays(self):
        for eighths in range(9):
            self.assertEqual(turned_place(BEGINNING, eighths), BEGINNING)

    def test_what_is_walked_is_walked_by_the_turned_heading(self):
        for heading in range(8):
            for eighths in range(9):
                for steps in (1, 2, -3, FAR):
                    with self.subTest(heading=heading, eighths=eighths, steps=steps):
                        place = moved(BEGINNING, heading, steps)
                        there = moved(BEGINNING, (heading + eighths) % 8, steps)
                        self.assertEqual(turned_place(place, eighths), there)

    def test_by_a_quarter(self):
        for place in PLACES:
            x, y = place
            self.assertEqual(turned_place(place, 2), ((-y[0], -y[1]), x))

    def test_so_often_by_one(self):
        for place in PLACES:
            by_ones = place
            for eighths in range(30):
                with self.subTest(place=place, eighths=eighths):
                    answer = turned_place(place, eighths)
                    self.assert_place(answer)
                    self.assertEqual(answer, by_ones)
                by_ones = turned_place(by_ones, 1)

    def test_by_very_many_eighths(self):
        for place in PLACES:
            for less in range(9):
                with self.subTest(place=place, less=less):
                    # 10 ** 12 eighths are whole rounds.
                    answer = turned_place(place, FAR - less)
                    self.assertEqual(answer, turned_place(place, -less % 8))


class MirroredTest(FloorCase):
    def test_once(self):
        self.assertEqual(mirrored_place(BEGINNING), BEGINNING)
        self.assertEqual(mirrored_place(((3, 1), (2, 5))), ((3, 1), (-2, -5)))
        self.assertEqual(mirrored_place(((-3, 2), (2, -4))), ((-3, 2), (-2, 4)))
        self.assertEqual(mirrored_place(((FAR, 0), (-FAR, FAR))), ((FAR, 0), (FAR, -FAR)))

    def test_twice_is_the_same_place(self):
        for place in PLACES:
            with self.subTest(place=place):
                once = mirrored_place(place)
                self.assert_place(once)
                self.assertEqual(mirrored_place(place), once)
                self.assertEqual(mirrored_place(once), place)

    def test_mirrored_and_turned(self):
        for place in PLACES:
            for eighths in range(8):
                one = mirrored_place(turned_place(place, eighths))
                other = turned_place(mirrored_place(place), 8 - eighths)
                self.assertEqual(one, other)


if __name__ == "__main__":
    unittest.main()
