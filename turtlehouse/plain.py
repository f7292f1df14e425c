"""Programs put in: said by gos, turns, ups, downs and inks alone."""

from turtlehouse.errors import TooGreat, TooLong
from turtlehouse.floor import EAST, NORTH, NORTH_EAST, ROUND, SOUTH_EAST, minus
from turtlehouse.hands import Hand
from turtlehouse.programs import MOST_AMOUNT
from turtlehouse.runs import walked

MOST_BACKS = 100


def legs_between(start, end):
    """Headings, and how many steps by each of them lead from one place to another."""
    east, easting = minus(end[0], start[0])
    north, northing = minus(end[1], start[1])
    # A step to the north-east adds to both second ints, one to the south-east adds to the
    # one and takes from the other. Both ints are even or both odd, so the halves are whole.
    return [
        (EAST, east),
        (NORTH_EAST, (easting + northing) // 2),
        (NORTH, north),
        (SOUTH_EAST, (easting - northing) // 2),
    ]


def turn_between(heading, wanted):
    """The turns, one or none, that lead from one heading to another."""
    eighths = (wanted - heading) % ROUND
    return [("turn", eighths)] if eighths != 0 else []


def way_back(hand, number):
    """Plain statements by which a hand comes to a mark and stands there as it is to."""
    spot, heading = hand.marks[number]
    now = hand.heading
    statements = [("up",)] if hand.down else []
    for wanted, steps in legs_between(hand.spot, spot):
        if not -MOST_AMOUNT <= steps <= MOST_AMOUNT:
            raise TooGreat("a mark lies too far away")
        if steps != 0:
            statements.extend(turn_between(now, wanted) + [("go", steps)])
            now = wanted
    statements.extend(turn_between(now, heading))
    return statements + ([("down",)] if hand.down else [])


def put_in(program, most):
    """The plain program that does what a program does by so many deeds."""
    walk = walked(program, most)
    if not walk.is_done():
        raise TooLong("the run would be stopped")
    if len([act for act in walk.acts if act[0] == "back"]) > MOST_BACKS:
        raise TooLong("there are too many backs")
    # The acts are done anew, to see from where each back begins.
    hand = Hand()
    body = []
    for act in walk.acts:
        if act[0] == "back":
            body.extend(way_back(hand, act[1]))
        elif act[0] != "mark":
            body.append(act)
        hand.act(act)
    return ((), tuple(body))
