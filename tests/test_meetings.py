"""Point 20: where the strokes of a form meet."""

import itertools
import random
import unittest

from tests.drawings import WAYS, Drawer, along, ends, place, value
from tests.makings import programs
from turtlehouse.errors import HouseError
from turtlehouse.forms import form_of
from turtlehouse.measures import meetings
from turtlehouse.runs import run

BEGINNING = place(0)
FAR = 10 ** 12
STARTS = (BEGINNING, place(2, -4, 3, 6), place(0, 1, 0, 1), place(-5, 3, 7, -11))
PAIRS = tuple(itertools.permutations(range(4), 2))


def twice(spot):
    return tuple((2 * number[0], 2 * number[1]) for number in spot)


def through(spot, way, low, high, ink=0):
    """A stroke by a way, as far as low and high tell from a place on its line."""
    return (ink, *ends((ink, along(spot, way, low), along(spot, way, high))))


def meetings_by_sides(form):
    """The meetings, by on which sides of each other the strokes' ends lie, told roughly."""
    def side(start, end, spot):
        (x, y), (x_end, y_end), (x_spot, y_spot) = [[value(number) for number in one] for one in (start, end, spot)]
        turn = (x_end - x) * (y_spot - y) - (y_end - y) * (x_spot - x)
        return 0 if abs(turn) < 10 ** -30 else (1 if turn > 0 else -1)

    told = []
    for one, other in itertools.combinations(range(len(form)), 2):
        (_, start, end), (_, other_start, other_end) = form[one], form[other]
        sides = (side(start, end, other_start), side(start, end, other_end),
                 side(other_start, other_end, start), side(other_start, other_end, end))
        if sides[0] * sides[1] > 0 or sides[2] * sides[3] > 0:
            continue
        dx, dy = [value(end[axis]) - value(start[axis]) for axis in (0, 1)]
        other_dx, other_dy = [value(other_end[axis]) - value(other_start[axis]) for axis in (0, 1)]
        whole = dx * other_dy - dy * other_dx
        if abs(whole) < 10 ** -30:
            continue
        part = ((value(other_start[0]) - value(start[0])) * other_dy
                - (value(other_start[1]) - value(start[1])) * other_dx) / whole
        told.append((one, other, value(start[0]) + part * dx, value(start[1]) + part * dy))
    return told


class MeetingsCase(unittest.TestCase):
    def assert_meetings(self, form, *told):
        with self.subTest(form=form):
            for _ in range(2):
                answer = meetings(form)
                self.assertIs(type(answer), list)
                self.assertEqual(answer, list(told))
                self.assertTrue(all(type(row) is tuple for row in answer))
                # What is done to it is not to be seen the second time.
                answer.append("changed")
                answer[0] = None

    def assert_meet(self, one, other, spot):
        form = tuple(sorted([one, other]))
        self.assert_meetings(form, (0, 1) + twice(spot))

    def assert_apart(self, one, other):
        self.assert_meetings(tuple(sorted([one, other])))


class TwoStrokesTest(MeetingsCase):
    def test_none(self):
        self.assert_meetings(())
        for way in range(4):
            self.assert_meetings((through(BEGINNING, way, (0, 0), (5, 0)),))

    def test_an_ordinary_cross(self):
        self.assert_meetings(((0, place(-1), place(1)), (0, place(0, 0, -1), place(0, 0, 1))),
                             (0, 1, (0, 0), (0, 0)))
        self.assert_meetings(((0, place(1), place(9)), (3, place(3, 0, -1), place(3, 0, 7))), (0, 1, (6, 0), (0, 0)))

    def test_within_both(self):
        for way, across in PAIRS:
            for spot in STARTS:
                for low, high in (((-1, 0), (1, 0)), ((7, -10), (3, 0)), ((0, -2), (7, -8))):
                    self.assert_meet(through(spot, way, (-2, 0), (0, 4)), through(spot, across, low, high), spot)

    def test_at_an_end_of_one(self):
        for way, across in PAIRS:
            for spot in STARTS:
                for end in ((4, 0), (-4, 0), (0, 2), (0, -6), (3, -4)):
                    one = through(spot, way, (-2, 0), (0, 4))
                    self.assert_meet(one, through(spot, across, (0, 0), end), spot)

    def test_at_ends_of_both(self):
        for way, across in PAIRS:
            for spot in STARTS:
                for end, other_end in itertools.product(((4, 0), (-4, 0), (0, 2), (-3, 4)), repeat=2):
                    one, other = through(spot, way, (0, 0), end), through(spot, across, (0, 0), other_end)
                    self.assert_meet(one, other, spot)

    def test_just_beyond_an_end(self):
        # The last of these is less than a billionth.
        gaps = ((1, 0), (0, 2), (3, -4), (-7, 10), (886731088897, -1254027132096))
        for way, across in PAIRS:
            for spot in STARTS:
                one = through(spot, way, (-2, 0), (0, 4))
                for gap in gaps:
                    self.assertGreater(value(gap), 0)
                    back = (-gap[0], -gap[1])
                    far = (gap[0] + 9, gap[1])
                    far_back = (-far[0], -far[1])
                    self.assert_apart(one, through(spot, across, gap, far))
                    self.assert_apart(one, through(spot, across, far_back, back))
                    self.assert_meet(one, through(spot, across, back, far), spot)
                    self.assert_apart(through(spot, way, gap, far), through(spot, across, gap, far))

    def test_parallel(self):
        for way in range(4):
            for aside in (place(1, 0, 2), place(0, 2, 1), place(0, 1, 0, 3), place(3, 0, 0), place(0, 0, 3)):
                one, other = through(BEGINNING, way, (-9, 0), (9, 0)), through(aside, way, (-9, 0), (9, 0), 1)
                self.assert_apart(one, other)

    def test_unlike_inks_that_cover_the_same(self):
        for way in range(4):
            strokes = [through(BEGINNING, way, (-2, 0), (high, 0), ink) for ink, high in ((0, 2), (3, 2), (5, 4))]
            self.assert_meetings(tuple(strokes))

    def test_of_any_inks(self):
        for way, across in PAIRS:
            for ink, other_ink in ((0, 0), (0, 7), (7, 0), (3, 2)):
                one = through(BEGINNING, way, (-1, 0), (1, 0), ink)
                other = through(BEGINNING, across, (-1, 0), (1, 0), other_ink)
                self.assert_meet(one, other, BEGINNING)

    def test_at_a_place_whose_numbers_are_halves(self):
        # The diagonals of a square of one step, and of one whose sides are odd.
        for side in (1, 3, 7):
            one, other = (0, BEGINNING, place(side, 0, side)), (0, place(0, 0, side), place(side))
            self.assert_meetings((one, other), (0, 1, (side, 0), (side, 0)))
        one, other = (0, place(1, 2, 3, 4), place(2, 5, 4, 7)), (0, place(1, 2, 4, 7), place(2, 5, 3, 4))
        self.assert_meetings((one, other), (0, 1, (3, 7), (7, 11)))

    def test_halves_at_an_end(self):
        # An end that lies on the other stroke where no whole number of steps leads.
        one = (0, BEGINNING, place(3))
        self.assert_meet(one, (0, place(-1, 2), place(-1, 2, -1, 2)), place(-1, 2))
        self.assert_meet(one, (0, place(1, 0, -1), place(2)), place(2))

    def test_crossing_at_places_with_odd_second_ints_that_no_straight_line_has(self):
        # A line to the east by even second ints is crossed aslant where its own are odd: no place, but told.
        one = (0, place(-9), place(9))
        other = (0, place(0, 1, 1, 1), place(2, 1, -1, 1))
        # x + y is 1 and twice half the root: at y = 0 it is (1, 2).
        self.assert_meet(one, other, ((1, 2), (0, 0)))
        other = (0, place(0, 1, -1, 1), place(2, 1, 1, 1))
        # x - y is 1.
        self.assert_meet(one, other, ((1, 0), (0, 0)))

    def test_far_away(self):
        for way, across in PAIRS:
            spot = place(FAR - 9, FAR - 9, 9 - FAR, 9 - FAR)
            self.assert_meet(through(spot, way, (-9, 0), (8, 0)), through(spot, across, (-1, 0), (1, 0)), spot)
            self.assert_apart(through(spot, way, (-9, 0), (8, 0)), through(spot, across, (1, 0), (2, 0)))

    def test_long_strokes(self):
        one = (0, place(-FAR, 0, -FAR), place(FAR, 0, FAR))
        other = (0, place(-FAR, 0, FAR - 1), place(FAR - 1, 0, -FAR))
        self.assert_meetings((one, other), (0, 1, (-1, 0), (-1, 0)))


class ManyStrokesTest(MeetingsCase):
    def test_a_star(self):
        form = tuple(sorted(through(BEGINNING, way, (-3, 0), (3, 0)) for way in range(4)))
        rows = [(one, other, (0, 0), (0, 0)) for one, other in itertools.combinations(range(4), 2)]
        self.assert_meetings(form, *rows)

    def test_a_grid_is_told_rising(self):
        east = [(0, place(0, 0, at), place(9, 0, at)) for at in range(4)]
        north = [(0, place(at), place(at, 0, 9)) for at in range(5)]
        form = tuple(sorted(east + north))
        told = meetings(form)
        self.assertEqual(told, sorted(told))
        self.assertEqual(len(told), 20)
        for one, other, x, y in told:
            self.assertLess(one, other)
            self.assertEqual({x[1], y[1]}, {0})
        self.assertEqual({(x[0], y[0]) for _, _, x, y in told}, {(2 * x, 2 * y) for x in range(5) for y in range(4)})

    def test_each_pair_is_told_even_in_one_place(self):
        form = tuple((ink, BEGINNING, along(BEGINNING, way, (2, 0))) for ink in range(3) for way in range(4))
        form = form_of(list(form))
        rows = [(one, other, (0, 0), (0, 0)) for one, other in itertools.combinations(range(12), 2)
                if self.way(form[one]) != self.way(form[other])]
        self.assertEqual(len(rows), 12 * 9 // 2)
        self.assert_meetings(form, *rows)

    def way(self, stroke):
        return [way for way in range(4) if along(BEGINNING, way, (2, 0)) in stroke[1:]][0]

    def test_what_was_told_is_the_askers(self):
        form = ((0, BEGINNING, place(1)), (1, BEGINNING, place(0, 0, 1)))
        first = meetings(form)
        kept = list(first)
        first.clear()
        second = meetings(form)
        self.assertEqual(second, kept)
        second[0] = second[0][::-1]
        self.assertEqual(meetings(form), kept)
        self.assertEqual(form, ((0, BEGINNING, place(1)), (1, BEGINNING, place(0, 0, 1))))

    def assert_as_by_sides(self, form):
        with self.subTest(form=form):
            told = meetings(form)
            rough = meetings_by_sides(form)
            self.assertEqual([row[:2] for row in told], [row[:2] for row in rough])
            for (_, _, x, y), (_, _, rough_x, rough_y) in zip(told, rough):
                self.assertLess(abs(value(x) - 2 * rough_x), 10 ** -30)
                self.assertLess(abs(value(y) - 2 * rough_y), 10 ** -30)
            self.assertEqual(told, sorted(told))
            return len(told)

    def test_by_lot(self):
        many = sum(self.assert_as_by_sides(form_of(Drawer(seed).strokes(lines=2 + seed % 9, each=3)))
                   for seed in range(100))
        self.assertGreater(many, 500)

    def test_drawings_of_programs(self):
        many = 0
        for program in programs(400, seed=24):
            try:
                form = form_of(run(program, 150)[0])
            except HouseError:
                continue
            many += self.assert_as_by_sides(form[:40])
        self.assertGreater(many, 100)

    def test_five_hundred_strokes(self):
        lot = random.Random(4)
        strokes = []
        for _ in range(700):
            start = tuple((lot.randint(-99, 99), 2 * lot.randint(-50, 50)) for _ in range(2))
            strokes.append((lot.randrange(8), start, along(start, lot.randrange(len(WAYS)), (lot.randint(1, 40), 0))))
        form = form_of(strokes)[:500]
        self.assertEqual(len(form), 500)
        told = meetings(form)
        self.assertEqual(told, sorted(told))
        near = meetings_by_sides(form[:60])
        self.assertEqual([row[:2] for row in told if row[1] < 60], [row[:2] for row in near])


if __name__ == "__main__":
    unittest.main()
