"""Point 19: the length of a form, its box, and what it covers."""

import random
import unittest

from tests.drawings import Drawer, along, ends, place, value
from tests.makings import programs
from turtlehouse.errors import HouseError
from turtlehouse.floor import moved
from turtlehouse.forms import form_of
from turtlehouse.measures import box_of, covers, length_of
from turtlehouse.runs import run

BEGINNING = place(0)
FAR = 10 ** 12

# Numbers whose second ints are even: a stroke of such a length to the east ends at a place.
EVEN = ((1, 0), (7, 0), (0, 2), (3, 4), (-1, 2), (5, -6), (-7, 10), (1393, -1970), (FAR, 0), (0, FAR))
# Starts whose second ints are even, and odd.
STARTS = (BEGINNING, place(2, -4, 3, 6), place(0, 1, 0, 1), place(-5, 3, 7, -11))

# The first of these two lies less than a billionth above the second.
NEAR = ((886731088897, 0), (0, 1254027132096))


def one_stroke(start, way, number, ink=0):
    return ((ink, *ends((ink, start, along(start, way, number)))),)


def forms(many):
    for seed in range(many):
        yield form_of(Drawer(seed).strokes(lines=1 + seed % 7, each=1 + seed % 5))


def forms_of_programs(many, seed):
    for program in programs(many, seed=seed):
        try:
            yield form_of(run(program, 300)[0])
        except HouseError:
            pass


class LengthTest(unittest.TestCase):
    def assert_length(self, form, number):
        with self.subTest(form=form):
            told = length_of(form)
            self.assertIs(type(told), tuple)
            self.assertEqual(told, number)

    def test_no_strokes(self):
        self.assert_length((), (0, 0))

    def test_straight(self):
        for way in (0, 2):
            for start in STARTS:
                for number in EVEN:
                    longer = number if value(number) > 0 else (-number[0], -number[1])
                    self.assert_length(one_stroke(start, way, number), longer)

    def test_aslant(self):
        for way in (1, 3):
            for start in STARTS:
                for a, b in EVEN + ((0, 1), (1, 1), (0, 3), (2, -1), (-2, 3)):
                    sign = 1 if value((a, b)) > 0 else -1
                    self.assert_length(one_stroke(start, way, (a, b)), (sign * b, sign * 2 * a))

    def test_so_many_steps_by_each_heading(self):
        for heading in range(8):
            for steps in (1, 2, 17, -1, -400):
                for start in STARTS:
                    stroke = (3, start, moved(start, heading, steps))
                    self.assert_length(form_of([stroke]), (abs(steps), 0))

    def test_all_strokes_come_together(self):
        strokes = [(0, BEGINNING, place(3)), (0, BEGINNING, place(0, 0, 0, 2)), (0, BEGINNING, place(0, 4, 0, 4)),
                   (0, BEGINNING, place(1, 0, -1, 0)), (1, place(9), place(9, 2))]
        self.assert_length(tuple(sorted(strokes)), (3 + 4, 2 + 2 + 2))

    def test_unlike_inks_apart(self):
        for way in range(4):
            end = along(BEGINNING, way, (1, 2))
            form = tuple((ink, BEGINNING, end) for ink in range(8))
            single = length_of(form[:1])
            self.assert_length(form, (8 * single[0], 8 * single[1]))
        self.assert_length(((0, BEGINNING, place(5)), (4, place(1), place(3)), (4, place(4), place(7))), (10, 0))

    def test_numbers_that_take_one_another_away(self):
        self.assert_length(((0, BEGINNING, place(-1, 2)), (0, place(0, 0, 1), place(3, -2, 1))), (2, 0))
        self.assert_length(((0, BEGINNING, place(-1, 2)), (0, place(0, 0, 1), place(1, 0, 1))), (0, 2))

    def test_by_lot(self):
        for form in [*forms(80), *forms_of_programs(80, seed=21)]:
            rough = sum((sum((value(one) - value(other)) ** 2 for one, other in zip(start, end))).sqrt()
                        for _, start, end in form)
            with self.subTest(form=form):
                self.assertLess(abs(value(length_of(form)) - rough), 10 ** -40)

    def test_as_much_as_was_drawn_where_nothing_is_drawn_twice(self):
        form = form_of(run(((), (("again", 40, (("go", (2, "count", 1)), ("turn", 1))),)), 4000)[0])
        self.assertEqual(length_of(form), (sum(2 * count + 1 for count in range(40)), 0))

    def test_five_hundred_strokes(self):
        form = tuple((0, place(0, 0, at), place(at + 1, 2, at)) for at in range(500))
        self.assert_length(form, (500 * 501 // 2, 1000))


class BoxTest(unittest.TestCase):
    def assert_box(self, form, *bounds):
        with self.subTest(form=form):
            told = box_of(form)
            self.assertIs(type(told), tuple)
            self.assertEqual(told, bounds)

    def test_no_strokes(self):
        self.assertIsNone(box_of(()))

    def test_one_stroke_of_each_direction(self):
        self.assert_box(((0, place(1, 2, 3, 4), place(6, 2, 3, 4)),), (1, 2), (3, 4), (6, 2), (3, 4))
        self.assert_box(((0, place(1, 2, 3, 4), place(1, 2, 3, 8)),), (1, 2), (3, 4), (1, 2), (3, 8))
        self.assert_box(((0, place(1, 1, 3, 5), place(1, 4, 3, 8)),), (1, 1), (3, 5), (1, 4), (3, 8))
        self.assert_box(((0, place(1, 1, 3, 5), place(3, 2, 1, 4)),), (1, 1), (1, 4), (3, 2), (3, 5))

    def test_one_stroke_from_everywhere(self):
        for way, (east, north) in enumerate(((1, 0), (1, 1), (0, 1), (1, -1))):
            for start in STARTS:
                for number in EVEN:
                    form = one_stroke(start, way, number)
                    (_, (west, one), (far, other)), = form
                    south, up = (other, one) if way == 3 else (one, other)
                    self.assert_box(form, west, south, far, up)

    def test_each_bound_by_a_stroke_of_its_own(self):
        form = tuple(sorted([
            (0, place(-9, 0, 1), place(-8, 0, 1)), (1, place(2, 0, -7), place(2, 0, -6)),
            (2, place(4, 0, 0), place(11, 0, 0)), (3, place(0, 0, 5), place(3, 0, 8)),
        ]))
        self.assert_box(form, (-9, 0), (-7, 0), (11, 0), (8, 0))

    def test_bounds_by_the_first_int_and_by_the_second(self):
        # 4 halves of the root come to 2.83: more than 2, less than 3.
        self.assert_box(((0, BEGINNING, place(2)), (1, BEGINNING, place(0, 4))), (0, 0), (0, 0), (0, 4), (0, 0))
        self.assert_box(((0, BEGINNING, place(3)), (1, BEGINNING, place(0, 4))), (0, 0), (0, 0), (3, 0), (0, 0))
        self.assert_box(((0, place(-2), BEGINNING), (1, place(0, -4), BEGINNING)), (0, -4), (0, 0), (0, 0), (0, 0))
        self.assert_box(((0, place(-3), BEGINNING), (1, place(0, -4), BEGINNING)), (-3, 0), (0, 0), (0, 0), (0, 0))
        for first, least in ((2, (0, -4)), (3, (-3, 0))):
            form = ((0, place(0, 0, -first), BEGINNING), (1, place(0, 0, 0, -4), BEGINNING))
            self.assert_box(form, (0, 0), least, (0, 0), (0, 0))
            form = ((0, BEGINNING, place(0, 0, first)), (1, BEGINNING, place(0, 0, 0, 4)))
            self.assert_box(form, (0, 0), (0, 0), (0, 0), (-least[0], -least[1]))

    def test_as_near_as_the_root_of_two_lets(self):
        pairs = (NEAR, ((1, 0), (0, 1)), ((7, 0), (0, 10)), ((1393, 0), (0, 1970)))
        for one, other in pairs:
            low, high = sorted((one, other), key=value)
            less, more = [(-number[0], -number[1]) for number in (high, low)]
            for order in ((0, 1), (1, 0)):
                ink, other_ink = order
                aslant = sorted([(ink, BEGINNING, (low, low)), (other_ink, BEGINNING, (high, high))])
                self.assert_box(tuple(aslant), (0, 0), (0, 0), high, high)
                aslant = sorted([(ink, (less, less), BEGINNING), (other_ink, (more, more), BEGINNING)])
                self.assert_box(tuple(aslant), less, less, (0, 0), (0, 0))

    def test_by_lot(self):
        for form in [*forms(120), *forms_of_programs(80, seed=22)]:
            if form:
                spots = [spot for _, start, end in form for spot in (start, end)]
                xs, ys = [[spot[axis] for spot in spots] for axis in (0, 1)]
                bounds = (min(xs, key=value), min(ys, key=value), max(xs, key=value), max(ys, key=value))
                self.assert_box(form, *bounds)

    def test_five_hundred_strokes(self):
        form = tuple(sorted((0, place(at, 0, 2 * at), place(at + 3, 0, 2 * at)) for at in range(-250, 250)))
        self.assert_box(form, (-250, 0), (-500, 0), (252, 0), (498, 0))


class CoversTest(unittest.TestCase):
    def assert_covers(self, form, ink, spot, answer=True):
        with self.subTest(form=form, ink=ink, spot=spot):
            self.assertIs(covers(form, ink, spot), answer)

    def assert_bare(self, form, ink, spot):
        self.assert_covers(form, ink, spot, False)

    def test_no_strokes(self):
        for ink in range(8):
            self.assert_bare((), ink, BEGINNING)

    def test_ends_between_and_beyond(self):
        # Along each line, how far it goes: a stroke from 0 to 3 and 4 halves of the root.
        inside = ((0, 0), (1, 0), (0, 2), (3, 4), (3, -4), (5, 0), (-1, 2), (2, 4), (0, 8), (7, -2))
        outside = ((-1, 0), (0, -2), (-3, 4), (6, 0), (0, 10), (4, 4), (3, 6), (-2, 2))
        for way in range(4):
            for start in STARTS:
                form = one_stroke(start, way, (3, 4), 5)
                for number in inside:
                    self.assert_covers(form, 5, along(start, way, number))
                for number in outside:
                    self.assert_bare(form, 5, along(start, way, number))

    def test_aslant_at_places_whose_second_ints_are_odd(self):
        for way in (1, 3):
            for start in STARTS:
                form = one_stroke(start, way, (0, 5))
                for number in ((0, 0), (0, 1), (0, 3), (0, 5), (1, 1), (1, 2), (-1, 3), (2, 1)):
                    self.assert_covers(form, 0, along(start, way, number))
                for number in ((0, -1), (0, 6), (-1, 1), (3, 1), (1, 4), (1, -2)):
                    self.assert_bare(form, 0, along(start, way, number))

    def test_as_near_to_an_end_as_the_root_of_two_lets(self):
        gap = (NEAR[0][0] - NEAR[1][0], NEAR[0][1] - NEAR[1][1])
        back = (-gap[0], -gap[1])
        self.assertGreater(value(gap), 0)
        for way in range(4):
            for start in STARTS:
                form = one_stroke(start, way, (5, 0))
                self.assert_covers(form, 0, along(start, way, gap))
                self.assert_bare(form, 0, along(start, way, back))
                self.assert_covers(form, 0, along(start, way, (5 + back[0], back[1])))
                self.assert_bare(form, 0, along(start, way, (5 + gap[0], gap[1])))

    def test_beside_the_line(self):
        for way in range(4):
            for start in STARTS:
                form = one_stroke(start, way, (9, 0))
                middle = along(start, way, (4, 0))
                self.assert_covers(form, 0, middle)
                for across in range(4):
                    if across != way:
                        numbers = ((1, 0), (-1, 0), (0, 2), (0, -2), (-7, 10), (17, -24))
                        for number in numbers + (((0, 1),) if across in (1, 3) else ()):
                            self.assert_bare(form, 0, along(middle, across, number))

    def test_in_another_ink(self):
        form = tuple((ink, BEGINNING, place(ink)) for ink in range(1, 8))
        for ink in range(8):
            for far in range(9):
                self.assert_covers(form, ink, place(far), far <= ink and ink > 0)

    def test_between_two_strokes_of_one_line(self):
        for way in range(4):
            spots = [along(BEGINNING, way, (at, 0)) for at in range(7)]
            form = ((0, spots[0], spots[2]), (0, spots[4], spots[6]))
            for at, spot in enumerate(spots):
                self.assert_covers(form, 0, spot, at != 3)

    def test_places_whose_second_ints_are_even_and_odd(self):
        # Through places of both kinds go the aslant lines alone.
        form = tuple(sorted((0, *ends((0, BEGINNING, along(BEGINNING, way, (6, 0))))) for way in range(4)))
        self.assert_covers(form, 0, place(0, 1, 0, 1))
        self.assert_covers(form, 0, place(1, 1, -1, -1))
        self.assert_bare(form, 0, place(0, 1, 0, 3))
        self.assert_bare(form, 0, place(0, 1, 1, 1))
        self.assert_covers(form, 0, place(0, 2))
        self.assert_covers(form, 0, place(0, 0, 0, 2))
        self.assert_bare(form, 0, place(0, 2, 0, 4))

    def test_far_away(self):
        for way in range(4):
            start = place(-FAR, -FAR, FAR - 9, FAR)
            form = one_stroke(start, way, (9, 0))
            self.assert_covers(form, 0, along(start, way, (9, 0)))
            self.assert_bare(form, 0, along(start, way, (10, 0)))
            self.assert_bare(form, 0, along(start, way, (-1, 0)))

    def test_by_lot(self):
        answers = set()
        for seed, form in enumerate(forms(60)):
            lot = random.Random(seed)
            for _ in range(60):
                odd = lot.randint(0, 1)
                spot = tuple((lot.randint(-3, 3), 2 * lot.randint(-2, 2) + odd) for _ in range(2))
                ink = lot.randint(0, 2)
                answer = any(own == ink and self.lies_on(spot, start, end) for own, start, end in form)
                answers.add(answer)
                self.assert_covers(form, ink, spot, answer)
        self.assertEqual(answers, {True, False})

    def lies_on(self, spot, start, end):
        """Whether the ways to the two ends are together as long as the stroke."""
        def far(one, other):
            return sum((value(a) - value(b)) ** 2 for a, b in zip(one, other)).sqrt()
        return abs(far(spot, start) + far(spot, end) - far(start, end)) < 10 ** -30

    def test_all_that_was_drawn_is_covered(self):
        for program in programs(60, seed=23):
            try:
                strokes = run(program, 200)[0]
            except HouseError:
                continue
            form = form_of(strokes)
            for ink, start, end in strokes[:30]:
                self.assert_covers(form, ink, start)
                self.assert_covers(form, ink, end)


if __name__ == "__main__":
    unittest.main()
