"""Plain programs walked backwards."""

from turtlehouse.hands import Hand


def undoing(statement, hand):
    """The statement that undoes a plain one, of a hand that is about to do it."""
    first = statement[0]
    if first in ("go", "turn"):
        return (first, -statement[1])
    if first == "ink":
        return ("ink", hand.ink)
    return ("down",) if hand.down else ("up",)


def backwards(program):
    """The plain program that leads back to the beginning, by the same strokes the other way."""
    hand = Hand()
    undone = []
    for statement in program[1]:
        undone.append(undoing(statement, hand))
        hand.act(statement)
    return ((), tuple(reversed(undone)))
