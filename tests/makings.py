"""Programs made by lot, from a fixed seed each, and a second hand that does them in its own way."""

import random

NAMES = ("word", "else", "go", "count", "n", "again", "do", "side", "if", "up", "abcdefgh", "z")


class Maker:
    """Makes programs, all of which are ones by points 7 to 10."""

    def __init__(self, seed, low=-9, high=9, backs=True):
        self.lot = random.Random(seed)
        self.low = low
        self.high = high
        self.backs = backs

    def program(self, words=6, statements=5):
        names = self.lot.sample(NAMES, self.lot.randint(0, words))
        known = {}
        told = []
        for name in names:
            many = self.lot.randint(0, 4)
            told.append((name, many, self.body(known, many, False, 0, statements)))
            known[name] = many
        # Most programs make all marks that their backs ask for, else few of them would be done.
        marks = tuple(("mark", number) for number in range(3)) if self.lot.random() < 0.8 else ()
        return (tuple(told), marks + self.body(known, 0, False, 0, 2 * statements))

    def body(self, known, many, counted, depth, statements):
        return tuple(
            self.statement(known, many, counted, depth, statements)
            for _ in range(self.lot.randint(0 if depth else 1, statements))
        )

    def amount(self, many, counted):
        sources = ["n0", "n1", "n2", "n3"][:many] + (["count"] if counted else [])
        if not sources or self.lot.random() < 0.5:
            return self.lot.randint(self.low, self.high)
        return (self.lot.randint(-3, 3), self.lot.choice(sources), self.lot.randint(-5, 5))

    def statement(self, known, many, counted, depth, statements):
        kinds = ["go", "go", "turn", "turn", "up", "down", "down", "ink", "mark"]
        if self.backs:
            kinds.append("back")
        if known:
            kinds.extend(["do", "do"])
        if depth < 6:
            kinds.extend(["again", "if"])
        first = self.lot.choice(kinds)
        if first in ("up", "down"):
            return (first,)
        if first in ("mark", "back"):
            return (first, self.lot.randint(0, 2))
        if first == "do":
            name = self.lot.choice(sorted(known))
            return (first, name, tuple(self.amount(many, counted) for _ in range(known[name])))
        amount = self.amount(many, counted)
        if first == "again":
            return (first, amount, self.body(known, many, True, depth + 1, statements - 1))
        if first == "if":
            bodies = [self.body(known, many, counted, depth + 1, statements - 1) for _ in range(2)]
            return (first, amount, bodies[0], bodies[1])
        return (first, amount)


def programs(many, seed=0, words=6, statements=5, **bounds):
    """So many programs, each by a seed of its own."""
    return [Maker(1000 * seed + at, **bounds).program(words, statements) for at in range(many)]


class Stop(Exception):
    """The second hand may begin nothing further."""


class SecondHand:
    """Does a program by calls within calls, with places as four ints, and keeps each deed."""

    WAYS = ((1, 0, 0, 0), (0, 1, 0, 1), (0, 0, 1, 0), (0, -1, 0, 1),
            (-1, 0, 0, 0), (0, -1, 0, -1), (0, 0, -1, 0), (0, 1, 0, -1))

    def __init__(self, program, most):
        self.words = {name: body for name, _, body in program[0]}
        self.most = most
        self.deeds = 0
        self.at = (0, 0, 0, 0)
        self.heading, self.down, self.ink, self.turned = 0, True, 0, 0
        self.marks = {}
        self.strokes, self.corners, self.plain, self.backs = [], [self.place()], [], 0
        self.refused = None
        self.done = False
        try:
            self.do_body(program[1], {})
            self.done = True
        except Stop:
            pass

    def place(self):
        return ((self.at[0], self.at[1]), (self.at[2], self.at[3]))

    def deed(self):
        if self.deeds == self.most:
            raise Stop
        self.deeds += 1

    def worth(self, amount, sources):
        value = amount if isinstance(amount, int) else amount[0] * sources[amount[1]] + amount[2]
        if abs(value) > 1000000:
            self.refused = "TooGreat"
            raise Stop
        return value

    def do_body(self, body, sources):
        for statement in body:
            self.deed()
            getattr(self, "do_" + statement[0])(sources, *statement[1:])

    def do_go(self, sources, amount):
        steps = self.worth(amount, sources)
        start = self.place()
        self.at = tuple(one + steps * other for one, other in zip(self.at, self.WAYS[self.heading]))
        self.corners.append(self.place())
        self.plain.append(("go", steps))
        if self.down and steps:
            self.strokes.append((self.ink, start, self.place()))

    def do_turn(self, sources, amount):
        eighths = self.worth(amount, sources)
        self.turned += eighths
        self.plain.append(("turn", eighths))
        self.heading = divmod(self.heading + eighths, 8)[1]

    def do_up(self, sources):
        self.down = False
        self.plain.append(("up",))

    def do_down(self, sources):
        self.down = True
        self.plain.append(("down",))

    def do_ink(self, sources, amount):
        value = self.worth(amount, sources)
        self.ink = value & 7
        self.plain.append(("ink", value))

    def do_mark(self, sources, number):
        self.marks[number] = (self.at, self.heading)

    def do_back(self, sources, number):
        if number not in self.marks:
            self.refused = "NoMark"
            raise Stop
        self.at, self.heading = self.marks[number]
        self.corners.append(self.place())
        self.backs += 1

    def do_again(self, sources, amount, body):
        for count in range(self.worth(amount, sources)):
            self.deed()
            self.do_body(body, {**sources, "count": count})

    def do_if(self, sources, amount, body, other):
        self.do_body(body if self.worth(amount, sources) > 0 else other, sources)

    def do_do(self, sources, name, amounts):
        handed = [self.worth(amount, sources) for amount in amounts]
        self.do_body(self.words[name], {f"n{at}": value for at, value in enumerate(handed)})

    def told(self):
        end = (self.place(), self.heading, self.down, self.ink)
        return (self.strokes, self.corners, end, self.turned, self.done)


def plain_body(lot, many, low=-9, high=9):
    """So many statements of a plain program."""
    kinds = ("go", "go", "go", "turn", "turn", "up", "down", "down", "ink")
    firsts = [lot.choice(kinds) for _ in range(many)]
    return tuple((first,) if first in ("up", "down") else (first, lot.randint(low, high)) for first in firsts)


def begins_anew(strokes):
    """How many times some strokes begin anew."""
    ends = [None] + [stroke[2] for stroke in strokes]
    return sum(stroke[1] != end for stroke, end in zip(strokes, ends))
