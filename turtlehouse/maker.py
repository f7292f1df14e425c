"""Programs made of drawings, with as few beginnings as there can be."""

from turtlehouse.errors import NotWhole, TooGreat, TooLong
from turtlehouse.floor import ROUND, moved
from turtlehouse.forms import heading_of
from turtlehouse.hands import Hand
from turtlehouse.measures import length_of, stroke_length
from turtlehouse.plain import turn_between, way_to, with_pen_up

MOST_INT = 500000
MOST_STEPS = 200


def check_form(form):
    """Refuse a form of which no program is made."""
    # What is by the root of two is never whole, so a whole length has no second int.
    if any([stroke_length(stroke)[1] != 0 for stroke in form]):
        raise NotWhole("a stroke is no whole number of steps long")
    ints = [value for ink, start, end in form for number in start + end for value in number]
    if any([not -MOST_INT <= value <= MOST_INT for value in ints]):
        raise TooGreat("a stroke ends too far away")
    if length_of(form)[0] > MOST_STEPS:
        raise TooLong("there are too many steps")


def about(heading):
    """The heading by which one comes back."""
    return (heading + ROUND // 2) % ROUND


class Net:
    """The edges of a form that are not walked yet."""

    def __init__(self, form):
        """loose holds, by knot, ink and heading of each such edge that ends there."""
        self.loose = {}
        for ink, start, end in form:
            heading = heading_of(start, end)
            while start != end:
                self.loose.setdefault(start, []).append((ink, heading))
                start = moved(start, heading, 1)
                self.loose.setdefault(start, []).append((ink, about(heading)))

    def walk(self, knot):
        """Walk on from a knot till there is no edge left: (knot, ink, heading) of each edge on the way."""
        way = []
        while self.loose[knot]:
            ink, heading = self.loose[knot].pop()
            way.append((knot, ink, heading))
            knot = moved(knot, heading, 1)
            self.loose[knot].remove((ink, about(heading)))
        return way

    def with_rounds(self, way):
        """A way with all rounds put in where it comes by, those that hang on these rounds too."""
        told = list(way)
        at = 0
        while at < len(told):
            told[at:at] = self.walk(told[at][0])
            at += 1
        return told


def ways_of(form):
    """Ways that walk each edge of a form once, as few as there can be."""
    net = Net(form)
    knots = list(net.loose)
    ways = []
    for knot in knots:
        # A way from an odd knot ends at another one, and then neither is odd any more.
        if len(net.loose[knot]) % 2 == 1:
            ways.append(net.walk(knot))
    # No knot is odd now, so that whatever is walked from here on comes back to where it began.
    ways = [net.with_rounds(way) for way in ways]
    for knot in knots:
        if net.loose[knot]:
            ways.append(net.with_rounds(net.walk(knot)))
    return ways


class Writer:
    """Writes a plain program, and does it, to know how the hand stands."""

    def __init__(self):
        """body is what was written."""
        self.hand = Hand()
        self.body = []

    def write(self, statement):
        """Write a statement."""
        self.body.append(statement)
        self.hand.act(statement)

    def begin_at(self, spot):
        """Come to a spot with the pen up, where it is not there."""
        if self.hand.spot != spot:
            way, heading = way_to(self.hand.spot, self.hand.heading, spot)
            for statement in with_pen_up(way):
                self.write(statement)

    def draw(self, ink, heading):
        """Draw an edge."""
        if self.hand.ink != ink:
            self.write(("ink", ink))
        for turn in turn_between(self.hand.heading, heading):
            self.write(turn)
        self.write(("go", 1))


def with_long_gos(body):
    """Statements in which gos that stand one behind another are one."""
    told = []
    for statement in body:
        if told and told[-1][0] == statement[0] == "go":
            statement = ("go", told.pop()[1] + statement[1])
        told.append(statement)
    return told


def made_of(form):
    """A plain program that draws each piece of a whole form once, and begins anew as rarely as can be."""
    check_form(form)
    writer = Writer()
    for way in ways_of(form):
        writer.begin_at(way[0][0])
        for knot, ink, heading in way:
            writer.draw(ink, heading)
    return ((), tuple(with_long_gos(writer.body)))
