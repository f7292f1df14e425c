"""Runs: what the hand does by a program."""

from turtlehouse.errors import TooGreat
from turtlehouse.hands import Hand
from turtlehouse.programs import MOST_AMOUNT, NUMBERS


def worth(amount, sources):
    """The int to which an amount comes."""
    value = amount
    if isinstance(amount, tuple):
        factor, source, more = amount
        value = factor * sources[source] + more
    if not -MOST_AMOUNT <= value <= MOST_AMOUNT:
        raise TooGreat("an amount comes to more than is allowed")
    return value


class Level:
    """A body that is being done, and how far."""

    def __init__(self, body, sources):
        """sources tells what count, n0 and so on are there."""
        self.body = body
        self.sources = sources
        self.at = 0
        self.begun = 0
        self.rounds = 0

    def is_at_end(self):
        """Whether no statement is left of this round."""
        return self.at == len(self.body)

    def is_through(self):
        """Whether nothing is left of it, and it is not to be begun once more."""
        return self.is_at_end() and self.begun >= self.rounds

    def begin_round(self):
        """Begin the body of an again."""
        self.sources["count"] = self.begun
        self.begun += 1
        self.at = 0

    def next_statement(self):
        """The next statement, which is behind us then."""
        self.at += 1
        return self.body[self.at - 1]


def again_level(body, sources, rounds):
    """A body that is to be begun so many times, ahead of the first of them."""
    # Its count is its own, while the count around it goes on.
    level = Level(body, dict(sources))
    level.rounds = rounds
    level.at = len(body)
    return level


class Walk:
    """A run that is under way."""

    def __init__(self, program):
        """levels are the bodies that are being done, the innermost one last."""
        words, body = program
        self.bodies = {name: inner for name, many, inner in words}
        self.levels = [Level(body, {})]
        self.hand = Hand()
        self.acts = []

    def is_done(self):
        """Whether nothing is left to be begun."""
        # Bodies that are through are left behind here alone, as leaving them is no deed.
        while self.levels and self.levels[-1].is_through():
            self.levels.pop()
        return not self.levels

    def do_deed(self):
        """Begin the next statement, or the next round of an again."""
        level = self.levels[-1]
        if level.is_at_end():
            level.begin_round()
        else:
            self.begin(level.next_statement(), level.sources)

    def begin(self, statement, sources):
        """Begin a statement."""
        first = statement[0]
        if first == "again":
            self.levels.append(again_level(statement[2], sources, worth(statement[1], sources)))
        elif first == "if":
            chosen = statement[2] if worth(statement[1], sources) > 0 else statement[3]
            self.levels.append(Level(chosen, sources))
        elif first == "do":
            handed = [worth(amount, sources) for amount in statement[2]]
            self.levels.append(Level(self.bodies[statement[1]], dict(zip(NUMBERS, handed))))
        elif first in ("go", "turn", "ink"):
            self.act((first, worth(statement[1], sources)))
        else:
            self.act(statement)

    def act(self, statement):
        """Let the hand do a statement, and keep it."""
        self.hand.act(statement)
        self.acts.append(statement)


def walked(program, most):
    """The walk by a program, done or stopped at so many deeds."""
    walk = Walk(program)
    deeds = 0
    while deeds < most and not walk.is_done():
        walk.do_deed()
        deeds += 1
    return walk


def run(program, most):
    """Strokes, corners, end, what all turns come to, and whether it is done."""
    walk = walked(program, most)
    hand = walk.hand
    return (hand.strokes, hand.corners, hand.end(), hand.turned, walk.is_done())
