"""Point 18: two forms held against each other."""

import copy
import itertools
import unittest

from tests.drawings import Drawer, along, ends, form_by_points, place, value, way_and_key
from turtlehouse.forms import form_of, unlike

BEGINNING = ((0, 0), (0, 0))


class UnlikeCase(unittest.TestCase):
    def covered(self, form, piece):
        """Of a piece: whether a form covers all of it, and whether it covers some stretch of it."""
        ink, start, end = piece
        whole = some = False
        way, key = way_and_key(start, end)
        axis = 1 if way == 2 else 0
        low, high = value(start[axis]), value(end[axis])
        for other_ink, other_start, other_end in form:
            if other_ink == ink and way_and_key(other_start, other_end) == (way, key):
                other_low, other_high = value(other_start[axis]), value(other_end[axis])
                whole = whole or (other_low <= low and high <= other_high)
                some = some or max(low, other_low) < min(high, other_high)
        return whole, some

    def assert_unlike(self, one, other, which=None):
        with self.subTest(one=one, other=other):
            kept = copy.deepcopy((one, other))
            told = unlike(one, other)
            self.assertEqual((one, other), kept)
            self.assertEqual(unlike(one, other), told)
            self.assertIs(type(told), tuple)
            self.assertEqual(len(told), 4)
            self.assertIn(told[0], (0, 1))
            self.assertIs(type(told[0]), int)
            if which is not None:
                self.assertEqual(told[0], which)
            piece = told[1:]
            self.assertNotEqual(piece[1], piece[2])
            self.assertEqual(ends(piece), piece[1:])
            forms = (one, other)
            self.assertEqual(self.covered(forms[told[0]], piece), (True, True))
            self.assertEqual(self.covered(forms[1 - told[0]], piece), (False, False))

    def assert_one_has_more(self, more, less):
        """The first has all that the second has, and more."""
        self.assert_unlike(more, less, 0)
        self.assert_unlike(less, more, 1)


class SameTest(UnlikeCase):
    def test_the_same(self):
        self.assertIsNone(unlike((), ()))
        for strokes in ([(0, BEGINNING, place(1))], Drawer(1).strokes(5, 6), Drawer(2).strokes(9, 3)):
            self.assertIsNone(unlike(form_of(strokes), form_of(strokes)))
            self.assertIsNone(unlike(form_of(strokes), form_of(strokes[::-1] + strokes)))


class OtherTest(UnlikeCase):
    def test_the_form_without_strokes(self):
        for way in range(4):
            form = form_of([(5, BEGINNING, along(BEGINNING, way, (1, 2)))])
            self.assert_one_has_more(form, ())
            self.assertEqual(unlike(form, ()), (0,) + form[0])
            self.assertEqual(unlike((), form), (1,) + form[0])

    def test_another_ink(self):
        for one, other in itertools.permutations(range(8), 2):
            self.assert_unlike(((one, BEGINNING, place(3)),), ((other, BEGINNING, place(3)),))

    def test_a_stroke_more_or_fewer(self):
        for seed in range(10):
            form = form_of(Drawer(seed).strokes(5, 4))
            for at in range(len(form)):
                self.assert_one_has_more(form, form[:at] + form[at + 1:])

    def test_longer_and_shorter_at_either_end(self):
        for way in range(4):
            for start in (BEGINNING, place(1, 1, -2, 3)):
                spots = [along(start, way, number) for number in ((0, 0), (3, -4), (1, 2), (9, -4))]
                for low, high in itertools.combinations(range(4), 2):
                    for other_low, other_high in itertools.combinations(range(4), 2):
                        one = ((1, spots[low], spots[high]),)
                        other = ((1, spots[other_low], spots[other_high]),)
                        if (low, high) == (other_low, other_high):
                            self.assertIsNone(unlike(one, other))
                        elif low <= other_low and other_high <= high:
                            self.assert_one_has_more(one, other)
                        else:
                            self.assert_unlike(one, other)

    def test_touching_at_a_place_alone(self):
        one = ((0, BEGINNING, place(1)),)
        other = ((0, place(1), place(2)),)
        self.assert_unlike(one, other)
        self.assert_unlike(other, one)

    def test_a_gap(self):
        for way in range(4):
            spots = [along(BEGINNING, way, number) for number in ((0, 0), (2, 0), (2, 2), (7, 0), (7, 2), (10, 0))]
            whole = ((0, spots[0], spots[5]),)
            parts = form_of([(0, spots[0], spots[1]), (0, spots[2], spots[3]), (0, spots[4], spots[5])])
            self.assertEqual(len(parts), 3)
            self.assert_one_has_more(whole, parts)
            for at in range(3):
                self.assert_one_has_more(parts, parts[:at] + parts[at + 1:])
                self.assert_one_has_more(whole, (parts[at],))

    def test_gaps_at_other_spots(self):
        one = form_of([(0, place(at), place(at + 1)) for at in range(0, 20, 3)])
        other = form_of([(0, place(at), place(at + 1)) for at in range(1, 20, 3)])
        self.assert_unlike(one, other)
        self.assert_unlike(other, one)
        self.assert_one_has_more(form_of(list(one + other)), one)
        self.assert_one_has_more(form_of(list(one + other)), other)

    def test_a_crossing_stroke_covers_no_stretch(self):
        one = ((0, place(-2), place(2)),)
        for way in (1, 2, 3):
            other = ((0, along(BEGINNING, way, (-3, 0)), along(BEGINNING, way, (3, 0))),)
            self.assert_unlike(one, other)
            self.assert_one_has_more(form_of(list(one + other)), other)

    def test_lines_beside_one_another(self):
        for way in range(4):
            for aside in (place(1, 0, 0, 0), place(0, 2, 0, 0), place(0, 0, 1, 0), place(0, 0, 0, 2)):
                one = form_of([(0, BEGINNING, along(BEGINNING, way, (50, 0)))])
                other = form_of([(0, aside, along(aside, way, (50, 0)))])
                self.assert_unlike(one, other)

    def test_strokes_whose_ints_stand_otherwise_than_their_values(self):
        one = form_of([(0, place(0, 0), place(1, 0)), (0, place(3, -8), place(4, -8)), (0, place(-1, 6), place(0, 6))])
        self.assertEqual(len(one), 3)
        whole = ((0, place(3, -8), place(0, 6)),)
        self.assert_one_has_more(whole, one)
        for at in range(3):
            self.assert_one_has_more(one, one[:at] + one[at + 1:])

    def test_little_by_far(self):
        near = (-886731088897, 1254027132096)
        low, high = ends((0, BEGINNING, place(*near)))
        self.assert_one_has_more(((0, low, place(9)),), ((0, high, place(9)),))


class LotsTest(UnlikeCase):
    def test_by_lot(self):
        same = 0
        for seed in range(200):
            drawer = Drawer(seed)
            strokes = drawer.strokes(lines=1 + seed % 4, each=8)
            one = form_of(strokes)
            for many in (1, 3, len(strokes) // 2):
                other = form_of(strokes[many:])
                self.assertEqual(other, form_by_points(strokes[many:]))
                if one == other:
                    self.assertIsNone(unlike(one, other))
                    self.assertIsNone(unlike(other, one))
                    same += 1
                else:
                    self.assert_one_has_more(one, other)
                third = form_of(drawer.strokes(1, 4) + strokes[many:])
                if one == third:
                    self.assertIsNone(unlike(one, third))
                else:
                    self.assert_unlike(one, third)
                    self.assert_unlike(third, one)
        self.assertGreater(same, 20)

    def test_five_hundred_strokes(self):
        form = form_of([(0, place(2 * at), place(2 * at + 1)) for at in range(500)])
        self.assertEqual(len(form), 500)
        for at in (0, 1, 250, 498, 499):
            self.assert_one_has_more(form, form[:at] + form[at + 1:])


if __name__ == "__main__":
    unittest.main()
