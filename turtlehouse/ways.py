"""Closed ways: how much they go round, and how often."""

from turtlehouse.floor import BEGINNING, NOTHING, minus, plus, sign_of


def twice_product(one, other):
    """Twice the product of two numbers."""
    # Half the root of two times itself is one half: told twice, nothing is broken.
    first, second = one
    other_first, other_second = other
    return (2 * first * other_first + second * other_second, 2 * (first * other_second + second * other_first))


def swept(start, end):
    """Four times the area between the beginning and two places, above 0 where it is passed to the left."""
    return minus(twice_product(start[0], end[1]), twice_product(end[0], start[1]))


def area_of(way):
    """Four times the area of a closed way, counted as often as it is gone round to the left."""
    area = NOTHING
    for start, end in zip(way, way[1:]):
        area = plus(area, swept(start, end))
    return area


def are_apart(one, other):
    """Whether two numbers lie on unlike sides of 0, or one of them at 0."""
    return sign_of(one) * sign_of(other) <= 0


def crossing(start, end, side):
    """1 or -1 where the way from start to end crosses the line straight east to the left or to the right, else 0."""
    # A place on the line counts as one below it: so a corner there is crossed once or not at all.
    below = sign_of(start[1]) <= 0
    if below == (sign_of(end[1]) <= 0):
        return 0
    if below:
        return 1 if side > 0 else 0
    return -1 if side < 0 else 0


def rounds_of(way, place):
    """How often a closed way goes round a place, to the left above 0; None where the place lies on it."""
    # Seen from the place, which is the beginning then.
    spots = [(minus(x, place[0]), minus(y, place[1])) for x, y in way]
    if BEGINNING in spots:
        return None
    rounds = 0
    for start, end in zip(spots, spots[1:]):
        side = sign_of(swept(start, end))
        if side == 0 and are_apart(start[0], end[0]) and are_apart(start[1], end[1]):
            return None
        rounds += crossing(start, end, side)
    return rounds
