"""Points 21 to 23: the area of closed ways, how often they go round a place, and ways that are parted."""

import itertools
import random
import unittest

from tests.drawings import place, value
from tests.makings import programs
from turtlehouse.errors import HouseError
from turtlehouse.floor import mirrored_place, moved, turned_place
from turtlehouse.runs import run
from turtlehouse.ways import area_of, rounds_of

BEGINNING = place(0)
FAR = 10 ** 12

SQUARE = [place(0), place(4), place(4, 0, 4), place(0, 0, 4), place(0)]
# The first of these two lies less than a billionth above the second.
ABOVE = (886731088897, 0)
BELOW = (0, 1254027132096)
GAP = (ABOVE[0], -BELOW[1])


def shifted(way, by):
    return [tuple((one[0] + other[0], one[1] + other[1]) for one, other in zip(spot, by)) for spot in way]


def enlarged(way, factor):
    return [tuple((factor * number[0], factor * number[1]) for number in spot) for spot in way]


def begun_at(way, at):
    """A closed way, begun at another of its places."""
    return way[at:-1] + way[:at] + [way[at]]


def by_headings(*legs, start=BEGINNING):
    """The way by some headings, so many steps each."""
    way = [start]
    for heading, steps in legs:
        way.append(moved(way[-1], heading, steps))
    return way


def way_by_lot(lot, many, reach=3):
    """A closed way by places near each other, so that it often crosses and touches itself."""
    spots = []
    for _ in range(many):
        odd = lot.randint(0, 1)
        spots.append(tuple((lot.randint(-reach, reach), 2 * lot.randint(-reach, reach) + odd) for _ in range(2)))
    return spots + spots[:1]


def rough_area(way):
    """Four times the area, by how far each stretch of the way has the floor below it."""
    return 2 * sum((value(start[0]) - value(end[0])) * (value(start[1]) + value(end[1]))
                   for start, end in zip(way, way[1:]))


def far_between(one, other):
    return sum((value(a) - value(b)) ** 2 for a, b in zip(one, other)).sqrt()


def rough_rounds(way, spot):
    """How often a way goes round a place, by the quarters of the floor through which it comes; None on it."""
    for start, end in zip(way, way[1:] or way):
        if far_between(spot, start) + far_between(spot, end) - far_between(start, end) < 10 ** -50:
            return None
    seen = [[value(number) - value(own) for number, own in zip(one, spot)] for one in way]
    quarters = [(0 if y >= 0 else 3) if x > 0 else (1 if y > 0 else 2) for x, y in seen]
    quarters = [3 if x == 0 and y < 0 else quarter for (x, y), quarter in zip(seen, quarters)]
    turned = 0
    for (x, y), (x_next, y_next), one, other in zip(seen, seen[1:], quarters, quarters[1:]):
        change = (other - one) % 4
        if change == 3:
            change = -1
        elif change == 2 and x * y_next - x_next * y < 0:
            change = -2
        turned += change
    return turned // 4


class AreaTest(unittest.TestCase):
    def assert_area(self, way, number):
        with self.subTest(way=way[:30]):
            kept = list(way)
            for _ in range(2):
                told = area_of(way)
                self.assertIs(type(told), tuple)
                self.assertEqual(told, number)
                self.assertEqual(way, kept)

    def test_one_place(self):
        for spot in (BEGINNING, place(3, 2, 1, 4), place(0, 1, 0, 1)):
            self.assert_area([spot], (0, 0))
            self.assert_area([spot] * 5, (0, 0))

    def test_there_and_back(self):
        for spot in (place(7), place(0, 3, 0, -5), place(1, 2, 3, 4)):
            self.assert_area([BEGINNING, spot, BEGINNING], (0, 0))
            self.assert_area([place(9, 1, 9, 1), spot, BEGINNING, spot, place(9, 1, 9, 1)], (0, 0))

    def test_squares(self):
        self.assert_area(SQUARE, (64, 0))
        self.assert_area(SQUARE[::-1], (-64, 0))
        for side in (1, 2, 5, FAR):
            for heading in range(8):
                way = by_headings(*[(heading + quarter, side) for quarter in (0, 2, 4, 6)])
                self.assert_area(way, (4 * side * side, 0))
                self.assert_area(way[::-1], (-4 * side * side, 0))

    def test_a_rhomb_has_the_root_of_two(self):
        # Sides of one step, an eighth of a round between them: the area is half the root of two.
        for heading in range(8):
            way = by_headings((heading, 1), (heading + 1, 1), (heading + 4, 1), (heading + 5, 1))
            self.assert_area(way, (0, 4))
            self.assert_area(way[::-1], (0, -4))

    def test_triangles(self):
        self.assert_area([place(0), place(1), place(0, 0, 1), place(0)], (2, 0))
        self.assert_area([place(0), place(0, 0, 1), place(1), place(0)], (-2, 0))
        self.assert_area([place(0), place(0, 2), place(0, 0, 0, 2), place(0)], (4, 0))
        self.assert_area([place(0), place(0, 1, 0, 1), place(0, 1, 0, -1), place(0)], (-2, 0))
        self.assert_area([place(0), place(0, 1, 0, -1), place(0, 1, 0, 1), place(0)], (2, 0))
        self.assert_area([place(0), place(3), place(0, 1, 0, 1), place(0)], (0, 6))
        self.assert_area([place(0), place(0, 1, 0, 1), place(3), place(0)], (0, -6))
        # Both numbers of both places have both ints.
        self.assert_area([place(0), place(1, 3, 2, 5), place(4, 1, 1, -1), place(0)],
                         (2 * (1 - 8) + (-3 - 5), 2 * (-1 + 3) - 2 * (20 + 2)))

    def test_an_odd_product_of_second_ints(self):
        # 3 and 5 halves of the root: their product is seven and a half, told twice it is whole.
        self.assert_area([place(0), place(0, 3, 0, 1), place(0, 1, 0, 5), place(0)], (14, 0))
        self.assert_area([place(0), place(0, 3, 0, 1), place(0, 1, 0, 1), place(0)], (2, 0))

    def test_the_eightfold_round(self):
        way = run(((), (("again", 8, (("go", 1), ("turn", 1))),)), 4000)[1]
        # Twice one and the root of two, four times.
        self.assert_area(way, (8, 16))

    def test_eights(self):
        self.assert_area(by_headings((0, 1), (2, 1), (4, 1), (6, 1), (4, 1), (6, 1), (0, 1), (2, 1)), (8, 0))
        self.assert_area(by_headings((0, 1), (2, 1), (4, 1), (6, 1), (6, 1), (4, 1), (2, 1), (0, 1)), (0, 0))
        self.assert_area([place(0), place(2, 0, 2), place(2), place(0, 0, 2), place(0)], (0, 0))

    def test_rounds_gone_twice(self):
        for times in (1, 2, 3, 10):
            self.assert_area([BEGINNING] + SQUARE[1:] * times, (64 * times, 0))
            self.assert_area([BEGINNING] + SQUARE[::-1][1:] * times, (-64 * times, 0))
        twice = by_headings((0, 4), (2, 4), (4, 4), (6, 3), (0, 1), (2, 1), (4, 1), (6, 2))
        self.assert_area(twice, (64 + 4, 0))

    def test_standing_still(self):
        still = [spot for spot in SQUARE for _ in range(3)]
        self.assert_area(still, (64, 0))

    def test_changes_of_a_way(self):
        for seed in range(60):
            lot = random.Random(seed)
            way = way_by_lot(lot, 1 + seed % 9)
            a, b = area_of(way)
            self.assertLess(abs(value((a, b)) - rough_area(way)), 10 ** -40)
            for at in range(len(way) - 1):
                self.assert_area(begun_at(way, at), (a, b))
            self.assert_area(way[::-1], (-a, -b))
            self.assert_area([mirrored_place(spot) for spot in way], (-a, -b))
            for by in (place(5), place(0, 2, 0, 4), place(-3, 1, 2, 7), place(FAR, FAR, -FAR, FAR)):
                self.assert_area(shifted(way, by), (a, b))
            self.assert_area(enlarged(way, 3), (9 * a, 9 * b))
            for eighths in range(8):
                self.assert_area([turned_place(spot, eighths) for spot in way], (a, b))

    def test_programs_that_come_back(self):
        for program in programs(60, seed=25):
            try:
                corners = run(program, 200)[1]
            except HouseError:
                continue
            way = corners + corners[:1]
            with self.subTest(program=program):
                self.assertLess(abs(value(area_of(way)) - rough_area(way)), 10 ** -30)

    def test_four_thousand_places(self):
        way = [place(at, 0, at * at) for at in range(3999)] + [place(0)]
        # Twice the area of each small triangle from the beginning: at times (at + 1).
        self.assert_area(way, (2 * sum(at * (at + 1) for at in range(3998)), 0))

    def test_the_list_may_be_changed_behind(self):
        way = list(SQUARE)
        area_of(way)
        way[2] = place(9, 0, 9)
        self.assert_area(way, (2 * (36 + 36), 0))
        self.assert_area(SQUARE, (64, 0))


class RoundsCase(unittest.TestCase):
    def assert_rounds(self, way, spot, answer):
        with self.subTest(way=way[:30], spot=spot):
            kept = list(way)
            for _ in range(2):
                told = rounds_of(way, spot)
                self.assertIs(type(told), type(answer))
                self.assertEqual(told, answer)
                self.assertEqual(way, kept)

    def assert_on(self, way, spot):
        self.assert_rounds(way, spot, None)


class RoundsTest(RoundsCase):
    def test_one_place(self):
        self.assert_on([BEGINNING], BEGINNING)
        for spot in (place(1), place(-1), place(0, 0, 1), place(0, 1, 0, -1), place(*GAP)):
            self.assert_rounds([BEGINNING], spot, 0)
            self.assert_on([spot], spot)

    def test_standing_still(self):
        self.assert_on([place(3)] * 4, place(3))
        for spot in (place(2), place(4), place(3, 0, 1), place(3, 0, -1), place(0)):
            self.assert_rounds([place(3)] * 4, spot, 0)
        still = [spot for spot in SQUARE for _ in range(3)]
        self.assert_rounds(still, place(1, 0, 1), 1)
        self.assert_rounds(still, place(9, 0, 4), 0)
        self.assert_rounds(still, place(-9, 0, 4), 0)
        self.assert_on(still, place(4, 0, 4))

    def test_there_and_back(self):
        way = [BEGINNING, place(6, 0, 2), BEGINNING]
        self.assert_on(way, place(3, 0, 1))
        self.assert_rounds(way, place(3), 0)
        self.assert_rounds(way, place(3, 0, 2), 0)
        self.assert_rounds(way, place(9, 0, 3), 0)
        self.assert_rounds(way, place(-3, 0, -1), 0)

    def test_on_each_place_and_between(self):
        for way in (SQUARE, SQUARE[::-1], [place(0), place(5, 1, 1, 1), place(0, 3, 4, 1), place(0)]):
            for spot in way:
                self.assert_on(way, spot)
        for at in range(5):
            for spot in (place(at), place(4, 0, at), place(at, 0, 4), place(0, 0, at)):
                self.assert_on(SQUARE, spot)
        for number in ((-1, 2), (3, -4), (0, 2), (-7, 10)):
            self.assert_on(SQUARE, (number, (0, 0)))
            self.assert_on(SQUARE, ((4, 0), number))

    def test_on_a_stretch_of_any_slope(self):
        # A third, two thirds and a half of a way that goes by none of the eight headings.
        way = [BEGINNING, place(6, 12, 18, 24), place(100), BEGINNING]
        for spot in (place(2, 4, 6, 8), place(4, 8, 12, 16), place(3, 6, 9, 12)):
            self.assert_on(way, spot)
        for spot in (place(2, 4, 6, 10), place(4, 8, 11, 16), place(3, 6, 10, 12), place(-2, -4, -6, -8)):
            self.assertIsNotNone(rounds_of(way, spot))

    def test_within_and_without(self):
        for way, sign in ((SQUARE, 1), (SQUARE[::-1], -1)):
            for x in range(-2, 7):
                for y in range(-2, 7):
                    if 0 < x < 4 and 0 < y < 4:
                        self.assert_rounds(way, place(x, 0, y), sign)
                    elif not (0 <= x <= 4 and 0 <= y <= 4):
                        self.assert_rounds(way, place(x, 0, y), 0)
            for spot in (place(0, 1, 0, 1), place(0, 5, 0, 1), place(0, 2, 2)):
                self.assert_rounds(way, spot, sign)
            for spot in (place(FAR), place(-FAR, FAR, 1, FAR), place(0, 0, -FAR), place(2, 0, FAR), place(-FAR, 0, 2)):
                self.assert_rounds(way, spot, 0)

    def test_several_rounds(self):
        for times in (1, 2, 3, 10):
            self.assert_rounds([BEGINNING] + SQUARE[1:] * times, place(1, 0, 2), times)
            self.assert_rounds([BEGINNING] + SQUARE[::-1][1:] * times, place(1, 0, 2), -times)
            self.assert_rounds([BEGINNING] + SQUARE[1:] * times, place(5, 0, 2), 0)

    def test_the_star_goes_round_its_middle_three_times(self):
        star = by_headings(*[(3 * at, 1000) for at in range(8)])
        self.assertEqual(star[-1], BEGINNING)
        # The middle lies half a side to the east, and near 207 to the north, as far as from all other sides.
        self.assert_rounds(star, place(500, 0, 207), 3)
        self.assert_rounds(star[::-1], place(500, 0, 207), -3)

    def test_an_eight(self):
        eight = [place(0), place(2), place(2, 0, 2), place(0, 0, 2), place(0), place(-2), place(-2, 0, 2),
                 place(0, 0, 2), place(0)]
        self.assert_rounds(eight, place(1, 0, 1), 1)
        self.assert_rounds(eight, place(-1, 0, 1), -1)
        self.assert_on(eight, place(0, 0, 1))

    def test_a_round_within_a_round(self):
        way = by_headings((0, 9), (2, 9), (4, 9), (6, 8), (0, 3), (2, 3), (4, 3), (6, 4))
        self.assertEqual(way[-1], BEGINNING)
        self.assert_rounds(way, place(1, 0, 2), 2)
        self.assert_rounds(way, place(5, 0, 2), 1)
        self.assert_rounds(way, place(1, 0, 7), 1)
        self.assert_rounds(way, place(10, 0, 2), 0)


class StraightTest(RoundsCase):
    """Places straight east, west, north and south of corners and edges."""

    def assert_as_by_quarters(self, way, spot):
        self.assert_rounds(way, spot, rough_rounds(way, spot))

    def test_beside_a_diamond(self):
        diamond = [place(2), place(0, 0, 2), place(-2), place(0, 0, -2), place(2)]
        for far in (1, 3, 100):
            for spot in (place(far), place(-far), place(0, 0, far), place(0, 0, -far)):
                self.assert_rounds(diamond, spot, 1 if far == 1 else 0)
                self.assert_rounds(diamond[::-1], spot, -1 if far == 1 else 0)
            for x, y in itertools.product((far, -far), (2, -2)):
                if far > 1:
                    self.assert_rounds(diamond, place(x, 0, y), 0)
                    self.assert_rounds(diamond, place(y, 0, x), 0)

    def test_straight_beside_edges(self):
        for y in (0, 4):
            for x in (-5, -1, 5, 9):
                self.assert_rounds(SQUARE, place(x, 0, y), 0)
                self.assert_rounds(SQUARE, place(y, 0, x), 0)

    def test_a_comb(self):
        """Corners that touch the height of a place from above and from below, on both sides of it."""
        for ups in itertools.product((-1, 0, 1), repeat=5):
            top = [place(9 - at, 0, up) for at, up in enumerate(ups)]
            way = [place(-9, 0, -5), place(12, 0, -5), place(12, 0, 5)] + top + [place(-9, 0, 5), place(-9, 0, -5)]
            for spot in (place(0), place(11), place(-11), place(7, 2), place(0, 2)):
                self.assert_as_by_quarters(way, spot)

    def test_places_that_stand_twice(self):
        for at in range(4):
            twice = SQUARE[:at + 1] + [SQUARE[at]] + SQUARE[at + 1:]
            thrice = SQUARE[:at + 1] + [place(9, 0, 9), SQUARE[at]] + SQUARE[at + 1:]
            for x, y in itertools.product((-3, 0, 1, 4, 7), repeat=2):
                self.assert_as_by_quarters(twice, place(x, 0, y))
                self.assert_as_by_quarters(thrice, place(x, 0, y))

    def test_each_small_way(self):
        """Every way of four places on a small grid, against each place of it."""
        grid = [place(x, 0, y) for x in range(3) for y in range(3)]
        for spots in itertools.product(grid, repeat=3):
            way = [place(1, 0, 1), *spots, place(1, 0, 1)]
            for spot in (place(0, 0, 1), place(2, 0, 1), place(1, 0, 2), place(0)):
                self.assertEqual(rounds_of(way, spot), rough_rounds(way, spot), (way, spot))


class NearTest(RoundsCase):
    """Places as near to the way as the root of two lets them."""

    def test_beside_an_edge(self):
        # Edges of a square whose side is the greater one, and places less than a billionth beside them.
        side = ABOVE
        way = [((0, 0), (0, 0)), (side, (0, 0)), (side, side), ((0, 0), side), ((0, 0), (0, 0))]
        middle = (1000, 0)
        self.assert_rounds(way, (BELOW, middle), 1)
        self.assert_rounds(way, (middle, BELOW), 1)
        self.assert_rounds(way, (GAP, middle), 1)
        self.assert_rounds(way, (middle, GAP), 1)
        back = (-GAP[0], -GAP[1])
        self.assert_rounds(way, (back, middle), 0)
        self.assert_rounds(way, (middle, back), 0)
        self.assert_on(way, (side, middle))
        side = BELOW
        way = [((0, 0), (0, 0)), (side, (0, 0)), (side, side), ((0, 0), side), ((0, 0), (0, 0))]
        self.assert_rounds(way, (ABOVE, middle), 0)
        self.assert_rounds(way, (middle, ABOVE), 0)
        self.assert_rounds(way[::-1], (GAP, GAP), -1)

    def test_beside_a_slope(self):
        # Aslant from the beginning to far away, and back below it: places just above and just below the slope.
        way = [BEGINNING, place(FAR), place(FAR, 0, FAR), BEGINNING]
        self.assert_on(way, (ABOVE, ABOVE))
        self.assert_rounds(way, (ABOVE, BELOW), 1)
        self.assert_rounds(way, (BELOW, ABOVE), 0)
        self.assert_rounds(way[::-1], (ABOVE, BELOW), -1)

    def test_steep_ways_of_both_ints(self):
        # Half way the slope is half as high as the number tells: above the place, or below it.
        for number, answer in (((3, 2), 1), ((7, -4), 1), ((1, 4), 0), ((3, -2), 0)):
            way = [BEGINNING, place(FAR), ((FAR, 0), number), BEGINNING]
            self.assert_rounds(way, place(FAR // 2, 0, 2), answer)
            self.assert_rounds(way[::-1], place(FAR // 2, 0, 2), -answer)
            self.assert_on(way, place(FAR // 2))
        self.assert_on([BEGINNING, place(FAR), place(FAR, 0, 4, 8), BEGINNING], place(FAR // 2, 0, 2, 4))


class LotsTest(RoundsCase):
    def test_by_lot(self):
        found = set()
        for seed in range(150):
            lot = random.Random(seed)
            way = way_by_lot(lot, 1 + seed % 12, reach=2)
            for _ in range(25):
                odd = lot.randint(0, 1)
                spot = tuple((lot.randint(-2, 2), 2 * lot.randint(-2, 2) + odd) for _ in range(2))
                answer = rough_rounds(way, spot)
                found.add(answer)
                self.assert_rounds(way, spot, answer)
        self.assertLessEqual({None, 0, 1, -1, 2, -2}, found)

    def test_changes_of_a_way(self):
        for seed in range(40):
            lot = random.Random(seed)
            way = way_by_lot(lot, 2 + seed % 9)
            spot = way_by_lot(lot, 1)[0]
            answer = rounds_of(way, spot)
            other = None if answer is None else -answer
            for at in range(len(way) - 1):
                self.assert_rounds(begun_at(way, at), spot, answer)
            self.assert_rounds(way[::-1], spot, other)
            self.assert_rounds([mirrored_place(one) for one in way], mirrored_place(spot), other)
            self.assert_rounds(enlarged(way, 3), enlarged([spot], 3)[0], answer)
            by = place(-3, 1, FAR, 7)
            self.assert_rounds(shifted(way, by), shifted([spot], by)[0], answer)
            for eighths in range(8):
                turned = [turned_place(one, eighths) for one in way]
                self.assert_rounds(turned, turned_place(spot, eighths), answer)

    def test_four_thousand_places(self):
        way = [BEGINNING] + SQUARE[1:] * 999 + [place(0), place(0), place(0)]
        self.assert_rounds(way, place(1, 0, 1), 999)
        self.assert_on(way, place(0, 0, 1))

    def test_the_list_may_be_changed_behind(self):
        way = list(SQUARE)
        self.assert_rounds(way, place(5, 0, 5), 0)
        way[2] = place(9, 0, 9)
        self.assert_rounds(way, place(5, 0, 5), 1)
        self.assert_rounds(SQUARE, place(5, 0, 5), 0)


class PartedTest(unittest.TestCase):
    def parted(self, way, at, other):
        """What lies between two stands at the same place, and the rest."""
        self.assertEqual(way[at], way[other])
        return way[at:other + 1], way[:at + 1] + way[other + 1:]

    def assert_adds_up(self, way, at, other, spots):
        between, rest = self.parted(way, at, other)
        areas = [area_of(part) for part in (between, rest, way)]
        self.assertEqual((areas[0][0] + areas[1][0], areas[0][1] + areas[1][1]), areas[2])
        for spot in spots:
            rounds = [rounds_of(part, spot) for part in (between, rest, way)]
            if rounds[0] is None or rounds[1] is None:
                self.assertIsNone(rounds[2])
            else:
                self.assertEqual(rounds[0] + rounds[1], rounds[2])

    def test_an_eight(self):
        eight = by_headings((0, 2), (2, 2), (4, 2), (6, 2), (6, 2), (4, 2), (2, 2), (0, 2))
        self.assertEqual(self.parted(eight, 0, 4), (eight[:5], [BEGINNING] + eight[5:]))
        self.assert_adds_up(eight, 0, 4, [place(1, 0, 1), place(-1, 0, -1), place(3), place(-1, 0, 1)])
        self.assert_adds_up(eight, 4, 8, [place(1, 0, 1), place(-1, 0, -1), place(3), place(-1, 0, 1)])
        self.assertEqual([area_of(part) for part in self.parted(eight, 0, 4)], [(16, 0), (-16, 0)])

    def test_at_a_place_that_stands_still(self):
        way = [place(0), place(4), place(4), place(4, 0, 4), place(0)]
        self.assert_adds_up(way, 1, 2, [place(3, 0, 1), place(1, 0, 3), place(2, 0, 2)])
        self.assert_adds_up(way, 0, 4, [place(3, 0, 1), place(1, 0, 3), place(2, 0, 2)])

    def test_by_lot(self):
        many = 0
        for seed in range(200):
            lot = random.Random(seed)
            few = way_by_lot(lot, 5, reach=2)
            way = [lot.choice(few) for _ in range(3 + seed % 8)]
            way.append(way[0])
            spots = way_by_lot(lot, 12, reach=2)
            for at, other in itertools.combinations(range(len(way)), 2):
                if way[at] == way[other]:
                    many += 1
                    with self.subTest(way=way, at=at, other=other):
                        self.assert_adds_up(way, at, other, spots)
        self.assertGreater(many, 300)


if __name__ == "__main__":
    unittest.main()
