"""Programs put in: said by gos, turns, ups, downs and inks alone."""

from turtlehouse.errors import TooGreat, TooLong
from turtlehouse.floor import EAST, NORTH, NORTH_EAST, ROUND, SOUTH_EAST, minus
from turtlehouse.hands import Hand
from turtlehouse.programs import MOST_AMOUNT
from turtlehouse.runs import walked

MOST_BACKS = 100


def legs_between(start, end):
    """Headings, and how many steps by each of them lead from one place to another."""
    east, easting = minus(end[0], start[0])
    north, northing = minus(end[1], start[1])
    # A step to the north-east adds to both second ints, one to the south-east adds to the
    # one and takes from the other. Both ints are even or both odd, so the halves are whole.
    return [
        (EAST, east),
        (NORTH_EAST, (easting + northing) // 2),
        (NORTH, north),
        (SOUTH_EAST, (easting - northing) // 2),
    ]


def turn_between(heading, wanted):
    """The turns, one or none, that lead from one heading to another."""
    eighths = (wanted - heading) % ROUND
    return [("turn", eighths)] if eighths != 0 else []


def way_to(start, heading, end):
    """Turns and gos that lead from one place, by the heading there, to another; and the heading then."""
    statements = []
    for wanted, steps in legs_between(start, end):
        if not -MOST_AMOUNT <= steps <= MOST_AMOUNT:
            raise TooGreat("a place lies too far away")
        if steps != 0:
            statements.extend(turn_between(heading, wanted) + [("go", steps)])
            heading = wanted
    return (statements, heading)


def with_pen_up(statements):
    """What draws nothing, and leaves a pen that was down so again."""
    return [("up",)] + statements + [("down",)]


def way_back(hand, number):
    """Plain statements by which a hand comes to a mark and stands there as it is to."""
    spot, heading = hand.marks[number]
    statements, now = way_to(hand.spot, hand.heading, spot)
    statements.extend(turn_between(now, heading))
    return with_pen_up(statements) if hand.down else statements


def put_in(program, most):
    """The plain program that does what a program does by so many deeds."""
    walk = walked(program, most)
    if not walk.is_done():
        raise TooLong("the run would be stopped")
    if len([act for act in walk.acts if act[0] == "back"]) > MOST_BACKS:
        raise TooLong("there are too many backs")
    # The acts are done anew, to see from where each back begins.
    hand = Hand()
    body = []
    for act in walk.acts:
        if act[0] == "back":
            body.extend(way_back(hand, act[1]))
        elif act[0] != "mark":
            body.append(act)
        hand.act(act)
    return ((), tuple(body))
