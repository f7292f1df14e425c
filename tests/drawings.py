"""Strokes made by lot, and their form reckoned in another way, for several tests."""

import random
from decimal import Decimal, getcontext

getcontext().prec = 80
HALF_ROOT = Decimal(2).sqrt() / 2

# By direction (east, north-east, north, south-east): what a number adds to x and to y.
WAYS = ((1, 0), (1, 1), (0, 1), (1, -1))


def value(number):
    """A number, so finely that no two of those that tests take are mixed up."""
    return number[0] + number[1] * HALF_ROOT


def place(a, b=0, c=0, d=0):
    """A place by its four ints."""
    return ((a, b), (c, d))


def along(start, way, number):
    """The place as far by a way as a number tells."""
    return tuple((one[0] + factor * number[0], one[1] + factor * number[1]) for one, factor in zip(start, WAYS[way]))


def way_and_key(start, end):
    """The direction of a line, and what is the same at all of its places and at no other's."""
    (x, y), (x_end, y_end) = [[complex(*number) for number in spot] for spot in (start, end)]
    for way, (east, north) in enumerate(WAYS):
        if (x_end - x) * north == (y_end - y) * east:
            return way, y * east - x * north
    raise AssertionError("on no line of the house")


def ends(stroke):
    """The western (southern) end and the other."""
    return tuple(sorted(stroke[1:], key=lambda spot: (value(spot[0]), value(spot[1]))))


def form_by_points(strokes):
    """The form, by all ends on a line and whether each stretch between two of them is covered."""
    lines = {}
    for stroke in strokes:
        start, end = ends(stroke)
        lines.setdefault((stroke[0], way_and_key(start, end)), []).append((start, end))
    told = []
    for (ink, (way, key)), stretches in lines.items():
        axis = 1 if way == 2 else 0
        points = sorted({spot for stretch in stretches for spot in stretch}, key=lambda spot: value(spot[axis]))
        marks = [value(spot[axis]) for spot in points]
        spans = [(value(start[axis]), value(end[axis])) for start, end in stretches]
        covered = [any(low <= marks[at] and marks[at + 1] <= high for low, high in spans)
                   for at in range(len(points) - 1)]
        at = 0
        while at < len(covered):
            if covered[at]:
                first = at
                while at < len(covered) and covered[at]:
                    at += 1
                told.append((ink, points[first], points[at]))
            at += 1
    return tuple(sorted(told))


class Drawer:
    """Makes lists of strokes that often touch, lie upon one another and on the same lines."""

    def __init__(self, seed, reach=4):
        self.lot = random.Random(seed)
        self.reach = reach

    def number(self, even):
        b = self.lot.randint(-self.reach, self.reach)
        return (self.lot.randint(-self.reach, self.reach), 2 * b if even else b)

    def strokes(self, lines, each, inks=(0, 1)):
        told = []
        for _ in range(lines):
            way = self.lot.randrange(4)
            odd = self.lot.randint(0, 1)
            start = tuple((self.lot.randint(-2, 2), 2 * self.lot.randint(-1, 1) + odd) for _ in range(2))
            for _ in range(self.lot.randint(1, each)):
                # On a line to the east or the north only one int changes, and is to stay even or odd.
                one, other = [along(start, way, self.number(way in (0, 2))) for _ in range(2)]
                if one != other:
                    told.append((self.lot.choice(inks), one, other))
        self.lot.shuffle(told)
        return told
