"""The hand: where it is, how it stands, and what it has drawn."""

from turtlehouse.errors import NoMark
from turtlehouse.floor import BEGINNING, ROUND, moved

INKS = 8


class Hand:
    """A hand that does single statements, with the ints to which their amounts come."""

    def __init__(self):
        """marks holds, by number, the spot and the heading that are kept."""
        self.spot = BEGINNING
        self.heading = 0
        self.down = True
        self.ink = 0
        self.turned = 0
        self.marks = {}
        self.strokes = []
        self.corners = [BEGINNING]

    def come_to(self, spot):
        """Be at that spot, which is a corner."""
        self.spot = spot
        self.corners.append(spot)

    def go(self, steps):
        """Walk so many steps by the heading."""
        start = self.spot
        self.come_to(moved(start, self.heading, steps))
        if self.down and steps != 0:
            self.strokes.append((self.ink, start, self.spot))

    def turn(self, eighths):
        """Turn by so many eighths to the left."""
        self.heading = (self.heading + eighths) % ROUND
        self.turned += eighths

    def back(self, number):
        """Be where that mark was made, and stand as then."""
        if number not in self.marks:
            raise NoMark("that mark was not made")
        spot, heading = self.marks[number]
        self.heading = heading
        self.come_to(spot)

    def act(self, statement):
        """Do a statement that holds no body and no word."""
        first = statement[0]
        if first == "go":
            self.go(statement[1])
        elif first == "turn":
            self.turn(statement[1])
        elif first == "ink":
            self.ink = statement[1] % INKS
        elif first == "mark":
            self.marks[statement[1]] = (self.spot, self.heading)
        elif first == "back":
            self.back(statement[1])
        else:
            self.down = first == "down"

    def end(self):
        """How the hand is left: its place and heading, whether the pen is down, and the ink."""
        return (self.spot, self.heading, self.down, self.ink)
