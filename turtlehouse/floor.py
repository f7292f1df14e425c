"""Numbers of the house, and places on the floor.

A number (a, b) is a and b times half the root of two. A place is two of them,
how far to the east and how far to the north.
"""

ROUND = 8

# The headings by which lines are told: of the two ways along one, that to the east, or to the north.
EAST = 0
NORTH_EAST = 1
NORTH = 2
SOUTH_EAST = 7

NOTHING = (0, 0)
BEGINNING = ((0, 0), (0, 0))

# By heading: what one step adds to the number to the east, and to that to the north.
STEPS = (
    ((1, 0), (0, 0)),
    ((0, 1), (0, 1)),
    ((0, 0), (1, 0)),
    ((0, -1), (0, 1)),
    ((-1, 0), (0, 0)),
    ((0, -1), (0, -1)),
    ((0, 0), (-1, 0)),
    ((0, 1), (0, -1)),
)


def plus(one, other):
    """The sum of two numbers."""
    return (one[0] + other[0], one[1] + other[1])


def minus(one, other):
    """The first of two numbers less the second."""
    return (one[0] - other[0], one[1] - other[1])


def times(number, factor):
    """A number, taken an int of times."""
    return (number[0] * factor, number[1] * factor)


def sign_of_int(value):
    """-1, 0 or 1, as an int is below, at or above 0."""
    if value > 0:
        return 1
    if value < 0:
        return -1
    return 0


def sign_of(number):
    """-1, 0 or 1, as a number is below, at or above 0."""
    first, second = number
    if first * second >= 0:
        return sign_of_int(first + second)
    # The two pull apart, and their squares tell which is the stronger one without any
    # rounding. They never come to the same, as the root of two is no fraction.
    if 2 * first * first > second * second:
        return sign_of_int(first)
    return sign_of_int(second)


def is_less(one, other):
    """Whether the first of two numbers is less than the second."""
    return sign_of(minus(one, other)) < 0


def joined_in_order(one, other):
    """Two lists that are in order, as one list that is."""
    told = []
    at = 0
    for row in other:
        while at < len(one) and not is_less(row[0], one[at][0]):
            told.append(one[at])
            at += 1
        told.append(row)
    return told + one[at:]


def in_order(rows):
    """Tuples that begin with a number, as a list that rises by these numbers."""
    # Python would hold two numbers against each other int by int, which is not how they
    # rise: so short lists are joined to longer ones till there is only one.
    parts = [[row] for row in rows]
    while len(parts) > 1:
        if len(parts) % 2 == 1:
            parts.append([])
        parts = [joined_in_order(parts[at], parts[at + 1]) for at in range(0, len(parts), 2)]
    return parts[0] if parts else []


def moved(place, heading, steps):
    """The place so many steps by a heading away; backwards where steps is below 0."""
    x, y = place
    east, north = STEPS[heading % ROUND]
    return (plus(x, times(east, steps)), plus(y, times(north, steps)))


def times_root(number):
    """A number times the root of two."""
    # The root of two is two of its halves, and half of it times the whole is one.
    return (number[1], 2 * number[0])


def times_half_root(number):
    """A number times half the root of two; its second int is even."""
    # Half the root of two times itself is one half: so the second int is halved.
    return (number[1] // 2, number[0])


def turned_by_one(place):
    """The place turned by an eighth to the left about the beginning."""
    # The second ints of x and y are both even or both odd, so those of the difference
    # and of the sum are even, and nothing is lost by halving them.
    x, y = place
    return (times_half_root(minus(x, y)), times_half_root(plus(x, y)))


def turned_place(place, eighths):
    """The place turned by so many eighths to the left about the beginning."""
    # By a whole round it is the same place, so only the rest of the turns is done.
    for done in range(eighths % ROUND):
        place = turned_by_one(place)
    return place


def mirrored_place(place):
    """The place with its way to the north on the other side of 0."""
    x, y = place
    return (x, times(y, -1))
