"""Drawings laid into one form, and held against each other."""

from turtlehouse.floor import EAST, NORTH, NORTH_EAST, NOTHING, SOUTH_EAST, in_order, is_less, minus, plus, times

# By the heading of a line: how many times x and y are taken, so that they come to the same at all of its places.
ACROSS = {0: (0, 1), 1: (-1, 1), 2: (-1, 0), 7: (1, 1)}


def heading_of(start, end):
    """The heading of the line on which two places lie."""
    east = minus(end[0], start[0])
    north = minus(end[1], start[1])
    if north == NOTHING:
        return EAST
    if east == NOTHING:
        return NORTH
    return NORTH_EAST if east == north else SOUTH_EAST


def aside(heading, place):
    """How far a line of that heading through a place lies to the left: the same at all of its places alone."""
    x, y = place
    return plus(times(x, ACROSS[heading][0]), times(y, ACROSS[heading][1]))


def line_of(start, end):
    """The line on which two places lie: its heading, and a number that tells it from others of that."""
    heading = heading_of(start, end)
    return (heading, aside(heading, start))


def along(heading, place):
    """How far along its line of that heading a place lies."""
    # On a line to the north all places are as far to the east as each other.
    return place[1] if heading == NORTH else place[0]


def stretch_of(heading, start, end):
    """How far along its line a stroke begins and ends, and the places there: (low, high, from, to)."""
    if is_less(along(heading, end), along(heading, start)):
        start, end = end, start
    return (along(heading, start), along(heading, end), start, end)


def joined(stretches):
    """As few stretches of a line as cover the same, none of which meet, in order."""
    told = []
    for low, high, start, end in in_order(stretches):
        if not told or is_less(told[-1][1], low):
            told.append((low, high, start, end))
        elif is_less(told[-1][1], high):
            told[-1] = (told[-1][0], high, told[-1][2], end)
    return told


def lines_of(strokes):
    """By ink and line, the stretches that strokes cover."""
    found = {}
    for ink, start, end in strokes:
        line = line_of(start, end)
        found.setdefault((ink, line), []).append(stretch_of(line[0], start, end))
    return {key: joined(stretches) for key, stretches in found.items()}


def form_of(strokes):
    """The form of what strokes cover."""
    lines = lines_of(strokes)
    return tuple(sorted([(key[0], start, end) for key in lines for low, high, start, end in lines[key]]))


def bare_piece(stretch, others):
    """The first piece of a stretch that no other stretch of its line covers, as two places, or None."""
    low, high, start, end = stretch
    for other_low, other_high, other_start, other_end in others:
        if not is_less(other_low, high):
            return (start, end)
        if is_less(low, other_low):
            return (start, other_start)
        if is_less(low, other_high):
            low, start = other_high, other_end
        if not is_less(low, high):
            return None
    return (start, end)


def more_of(lines, others):
    """Ink, from and to of a piece that the first covers and the others do not, or None."""
    for key in lines:
        for stretch in lines[key]:
            piece = bare_piece(stretch, others.get(key, []))
            if piece is not None:
                return (key[0], piece[0], piece[1])
    return None


def unlike(one, other):
    """A piece that one of two forms has and the other has not: (which, ink, from, to), or None."""
    lines = (lines_of(one), lines_of(other))
    for which in (0, 1):
        piece = more_of(lines[which], lines[1 - which])
        if piece is not None:
            return (which,) + piece
    return None
