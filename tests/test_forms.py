"""Point 17: the form of a drawing."""

import copy
import itertools
import random
import unittest

from tests.drawings import Drawer, along, ends, form_by_points, place, value
from tests.makings import programs
from turtlehouse.errors import HouseError
from turtlehouse.floor import in_order, is_less, minus
from turtlehouse.forms import form_of
from turtlehouse.runs import run

BEGINNING = ((0, 0), (0, 0))
FAR = 10 ** 12


class FormCase(unittest.TestCase):
    def assert_form(self, strokes, *form):
        with self.subTest(strokes=strokes[:20]):
            kept = copy.deepcopy(strokes)
            for _ in range(2):
                told = form_of(strokes)
                self.assertIs(type(told), tuple)
                self.assertEqual(told, form)
                self.assertEqual(strokes, kept)

    def assert_one(self, strokes, start, end, ink=0):
        self.assert_form(strokes, (ink, start, end))


class OneStrokeTest(FormCase):
    def test_no_strokes(self):
        self.assert_form([])

    def test_each_heading(self):
        west_first = ((5, 0, 0, 0), (0, 5, 0, 5), (0, 0, 5, 0), (0, 5, 0, -5))
        for ints in west_first:
            far = place(*ints)
            self.assert_one([(0, BEGINNING, far)], BEGINNING, far)
            self.assert_one([(0, far, BEGINNING)], BEGINNING, far)
            back = place(*[-value for value in ints])
            self.assert_one([(0, BEGINNING, back)], back, BEGINNING)
            self.assert_one([(0, back, BEGINNING)], back, BEGINNING)

    def test_each_ink(self):
        for ink in range(8):
            self.assert_one([(ink, BEGINNING, place(1))], BEGINNING, place(1), ink)

    def test_strokes_that_are_no_whole_number_of_steps(self):
        for way in range(4):
            for number in ((1, 2), (3, -2), (-1, 2), (-7, 10), (0, 4), (-2, 0)):
                for start in (BEGINNING, place(1, 2, 3, 4), place(-5, 3, 2, 1)):
                    end = along(start, way, number)
                    low, high = (start, end) if value(number) > 0 else (end, start)
                    self.assert_one([(3, start, end)], low, high, 3)
                    self.assert_one([(3, end, start)], low, high, 3)

    def test_places_that_lie_very_near_each_other(self):
        # The last one is less than a billionth: only exact reckoning tells its sign.
        for number in ((1393, -1970), (-3363, 4756), (-886731088897, 1254027132096)):
            low, high = (BEGINNING, place(*number)) if value(number) > 0 else (place(*number), BEGINNING)
            self.assert_one([(0, BEGINNING, place(*number))], low, high)
            self.assert_one([(0, place(*number), BEGINNING)], low, high)

    def test_far_away(self):
        for way in range(4):
            start = place(-FAR, -FAR, FAR - 9, FAR)
            for number in ((7, 0), (0, 2), (8, 2)):
                end = along(start, way, number)
                self.assert_one([(0, end, start)], start, end)


class OneLineTest(FormCase):
    def starts(self):
        return (BEGINNING, place(3, 4, -5, 6), place(1, 1, 1, 1), place(0, -3, 7, 5))

    def test_each_way_of_two_strokes(self):
        """Four ends on one line, in every order: apart, touching, overlapping, one within another."""
        for way in range(4):
            for start in self.starts():
                for low, high, other_low, other_high in itertools.product(range(4), repeat=4):
                    if low < high and other_low < other_high:
                        spots = [along(start, way, (at, 2 * at)) for at in range(4)]
                        strokes = [(2, spots[low], spots[high]), (2, spots[other_low], spots[other_high])]
                        if high < other_low or other_high < low:
                            self.assert_form(strokes, *sorted(strokes))
                        else:
                            self.assert_one(
                                strokes, spots[min(low, other_low)], spots[max(high, other_high)], 2)

    def test_touching(self):
        self.assert_one([(0, BEGINNING, place(1)), (0, place(1), place(2))], BEGINNING, place(2))
        self.assert_one([(0, place(2), place(1)), (0, place(1), BEGINNING)], BEGINNING, place(2))

    def test_touching_by_numbers_that_are_told_otherwise(self):
        self.assert_one(
            [(0, BEGINNING, place(3, 2)), (0, place(3, 2), place(1, 8))], BEGINNING, place(1, 8))

    def test_not_quite_touching(self):
        near = (3, -4)  # not quite 0.18
        for way in range(4):
            spots = [along(BEGINNING, way, number) for number in ((-5, 0), (0, 0), near, (6, 0))]
            strokes = [(0, spots[0], spots[1]), (0, spots[2], spots[3])]
            self.assert_form(strokes, *sorted(strokes))

    def test_twice_and_from_the_other_end(self):
        for way in range(4):
            end = along(BEGINNING, way, (2, 2))
            self.assert_one([(0, BEGINNING, end), (0, BEGINNING, end)], BEGINNING, end)
            self.assert_one([(0, BEGINNING, end), (0, end, BEGINNING)], BEGINNING, end)

    def test_within_another(self):
        self.assert_one([(0, BEGINNING, place(9)), (0, place(2), place(5)), (0, place(7), place(6))],
                        BEGINNING, place(9))
        self.assert_one([(0, BEGINNING, place(9)), (0, BEGINNING, place(5))], BEGINNING, place(9))
        self.assert_one([(0, BEGINNING, place(9)), (0, place(5), place(9))], BEGINNING, place(9))

    def test_a_gap_that_is_closed_last(self):
        strokes = [(0, BEGINNING, place(1)), (0, place(2), place(3)), (0, place(1), place(2))]
        self.assert_one(strokes, BEGINNING, place(3))
        self.assert_form(strokes[:2], strokes[0], strokes[1])

    def test_in_two_parts(self):
        for way in range(4):
            spots = [along(place(1, 1, 1, 1), way, number) for number in ((0, 0), (1, 2), (5, 4))]
            self.assert_one([(1, spots[0], spots[1]), (1, spots[1], spots[2])], spots[0], spots[2], 1)

    def test_a_hundred_parts_in_any_order(self):
        lot = random.Random(1)
        for way in range(4):
            spots = [along(BEGINNING, way, (at, 2 * (at % 3))) for at in range(0, 505, 5)]
            strokes = [(0, one, other) for one, other in zip(spots, spots[1:])]
            for _ in range(5):
                lot.shuffle(strokes)
                self.assert_one([stroke if lot.random() < 0.5 else (0, stroke[2], stroke[1]) for stroke in strokes],
                                spots[0], spots[-1])


class SomeLinesTest(FormCase):
    def test_inks_are_apart(self):
        self.assert_form(
            [(1, BEGINNING, place(2)), (0, place(1), place(3)), (2, place(2), place(3))],
            (0, place(1), place(3)), (1, BEGINNING, place(2)), (2, place(2), place(3)))

    def test_lines_beside_one_another_are_apart(self):
        for way in range(4):
            for aside in (place(0, 1, 1, 1), place(1, 0, -1, 2), place(0, 1, 2, -1), place(-1, 2, 1, 0)):
                strokes = [(0, start, along(start, way, (3, 0))) for start in (BEGINNING, aside)]
                self.assert_form(strokes, *sorted(strokes))

    def test_lines_that_differ_by_little(self):
        # Each of the four directions beside a line that one of its two ints tells apart.
        for way in range(4):
            for aside in (place(1, 0, 0, 0), place(0, 2, 0, 0), place(0, 0, 1, 0), place(0, 0, 0, 2)):
                strokes = [(0, BEGINNING, along(BEGINNING, way, (50, 0))), (0, aside, along(aside, way, (50, 0)))]
                told = form_of(strokes)
                self.assertEqual(told, form_by_points(strokes))

    def test_unlike_directions_through_one_place(self):
        strokes = [(0, BEGINNING, along(BEGINNING, way, (3, 4))) for way in range(4)]
        self.assert_form(strokes, *sorted(strokes))
        crossing = [(0, along(BEGINNING, way, (-3, -4)), along(BEGINNING, way, (3, 4))) for way in range(4)]
        self.assert_form(crossing, *sorted(crossing))
        self.assert_form(crossing + strokes, *sorted(crossing))

    def test_sorted_as_python_sorts(self):
        strokes = [(0, place(1, -8), place(2, -8)), (0, place(0, 6), place(1, 6)), (0, place(-1, 0, 5), place(0, 0, 5))]
        for order in itertools.permutations(strokes):
            self.assert_form(list(order), *sorted(strokes))

    def test_more_than_one_stroke_of_a_line_is_sorted_by_its_ints(self):
        # By its value 3 - 8 times half a root is the least of these, by its ints it is not.
        strokes = [(0, place(0, 0), place(1, 0)), (0, place(3, -8), place(4, -8)), (0, place(-1, 6), place(0, 6))]
        self.assert_form(strokes, strokes[2], strokes[0], strokes[1])


class LotsTest(FormCase):
    def assert_well_formed(self, form):
        for at, (ink, start, end) in enumerate(form):
            self.assertEqual(ends(form[at]), (start, end))
        self.assertEqual(list(form), sorted(form))

    def test_by_lot(self):
        for seed in range(250):
            strokes = Drawer(seed).strokes(lines=1 + seed % 7, each=1 + seed % 11)
            with self.subTest(seed=seed):
                form = form_of(strokes)
                self.assertEqual(form, form_by_points(strokes))
                self.assert_well_formed(form)
                self.assertEqual(form_of(list(form)), form)
                lot = random.Random(seed)
                changed = [(ink, *lot.sample([start, end], 2)) for ink, start, end in strokes + strokes[:3]]
                lot.shuffle(changed)
                self.assertEqual(form_of(changed), form)

    def test_drawings_of_programs(self):
        for program in programs(200, seed=6):
            try:
                strokes = run(program, 400)[0]
            except HouseError:
                continue
            with self.subTest(program=program):
                self.assertEqual(form_of(strokes), form_by_points(strokes))

    def test_the_list_may_be_changed_behind(self):
        strokes = [(0, BEGINNING, place(1)), (0, place(2), place(3))]
        form = form_of(strokes)
        strokes.append((0, place(1), place(2)))
        self.assertEqual(form, ((0, BEGINNING, place(1)), (0, place(2), place(3))))
        self.assertEqual(form_of(strokes), ((0, BEGINNING, place(3)),))

    def test_four_thousand_strokes(self):
        lot = random.Random(2)
        apart = [(0, place(2 * at), place(2 * at + 1)) for at in range(4000)]
        lot.shuffle(apart)
        self.assertEqual(form_of(apart), tuple(sorted(apart)))
        closed = [(0, place(at), place(at + 1)) for at in range(4000)]
        lot.shuffle(closed)
        self.assertEqual(form_of(closed), ((0, BEGINNING, place(4000)),))
        beside = [(0, place(0, 0, at), place(3, 0, at)) for at in range(4000)]
        lot.shuffle(beside)
        self.assertEqual(form_of(beside), tuple(sorted(beside)))


class InOrderTest(unittest.TestCase):
    def test_rows_by_their_numbers(self):
        lot = random.Random(3)
        for many in (0, 1, 2, 3, 4, 5, 7, 8, 9, 16, 31, 100):
            rows = [((lot.randint(-9, 9), lot.randint(-9, 9)), at) for at in range(many)]
            self.assertEqual(in_order(rows), sorted(rows, key=lambda row: value(row[0])))

    def test_less(self):
        for one, other in itertools.product([(a, b) for a in range(-4, 5) for b in range(-4, 5)], repeat=2):
            self.assertIs(is_less(one, other), value(one) < value(other))
            self.assertEqual(minus(one, other), (one[0] - other[0], one[1] - other[1]))


if __name__ == "__main__":
    unittest.main()
