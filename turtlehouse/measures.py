"""Drawings measured: how long they are, how far they reach, what they cover, and where their strokes meet."""

from turtlehouse.floor import EAST, NORTH, NOTHING, is_less, minus, plus, times, times_root
from turtlehouse.forms import ACROSS, along, aside, heading_of, line_of


def stroke_length(stroke):
    """How long a stroke of a form is."""
    ink, start, end = stroke
    heading = heading_of(start, end)
    far = minus(along(heading, end), along(heading, start))
    # Aslant it is longer than it reaches to the east, by the root of two.
    return far if heading in (EAST, NORTH) else times_root(far)


def length_of(form):
    """The number to which the lengths of all strokes come."""
    length = NOTHING
    for stroke in form:
        length = plus(length, stroke_length(stroke))
    return length


def least_of(numbers):
    """The least of some numbers."""
    least = numbers[0]
    for number in numbers:
        if is_less(number, least):
            least = number
    return least


def greatest_of(numbers):
    """The greatest of some numbers."""
    greatest = numbers[0]
    for number in numbers:
        if is_less(greatest, number):
            greatest = number
    return greatest


def box_of(form):
    """How far a form reaches, (west, south, east, north), or None where there are no strokes."""
    if not form:
        return None
    spots = [spot for ink, start, end in form for spot in (start, end)]
    xs = [x for x, y in spots]
    ys = [y for x, y in spots]
    return (least_of(xs), least_of(ys), greatest_of(xs), greatest_of(ys))


def is_within(number, low, high):
    """Whether a number lies between two others, or is one of them."""
    return not is_less(number, low) and not is_less(high, number)


def is_on(place, start, end):
    """Whether a place lies on the stroke from start to end."""
    heading, number = line_of(start, end)
    if aside(heading, place) != number:
        return False
    return is_within(along(heading, place), along(heading, start), along(heading, end))


def covers(form, ink, place):
    """Whether a stroke of that ink covers a place."""
    return any([own == ink and is_on(place, start, end) for own, start, end in form])


def twice_crossing(line, other):
    """Twice the place in which two lines of unlike headings cross."""
    heading, number = line
    other_heading, other_number = other
    x_times, y_times = ACROSS[heading]
    other_x_times, other_y_times = ACROSS[other_heading]
    # Two sums of x and y are known. This is 1 or 2, above or below 0, so that 2 is parted by it evenly.
    whole = x_times * other_y_times - other_x_times * y_times
    x = minus(times(number, other_y_times), times(other_number, y_times))
    y = minus(times(other_number, x_times), times(number, other_x_times))
    return (times(x, 2 // whole), times(y, 2 // whole))


def meeting_of(stroke, other):
    """Twice the place in which two strokes meet, or None."""
    line = line_of(stroke[1], stroke[2])
    other_line = line_of(other[1], other[2])
    if line[0] == other_line[0]:
        return None
    spot = twice_crossing(line, other_line)
    for heading, start, end in ((line[0], stroke[1], stroke[2]), (other_line[0], other[1], other[2])):
        if not is_within(along(heading, spot), times(along(heading, start), 2), times(along(heading, end), 2)):
            return None
    return spot


def meetings(form):
    """Where strokes on lines of unlike directions meet: (one, other, x, y), x and y being told twice."""
    told = []
    for one in range(len(form)):
        for other in range(one + 1, len(form)):
            spot = meeting_of(form[one], form[other])
            if spot is not None:
                told.append((one, other, spot[0], spot[1]))
    return told
