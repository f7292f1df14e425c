"""Points 27 and 28: programs made of drawings."""

import collections
import random
import unittest

from tests.drawings import WAYS, along, place
from tests.makings import begins_anew, programs
from turtlehouse.errors import HouseError, NotWhole, TooGreat, TooLong
from turtlehouse.floor import moved
from turtlehouse.forms import form_of, unlike
from turtlehouse.maker import made_of
from turtlehouse.measures import length_of
from turtlehouse.notes import read
from turtlehouse.programs import check, size_of
from turtlehouse.runs import run

BEGINNING = place(0)


def drawn_by(text):
    return form_of(run(read(text), 4000)[0])


def headings_to(start, end):
    """The headings, one or none, by which a whole number of steps leads from one place to another."""
    steps = max(abs(one - other) for goal, origin in zip(end, start) for one, other in zip(goal, origin))
    return [heading for heading in range(8) if moved(start, heading, steps) == end]


def is_whole(form):
    return all(headings_to(start, end) for _, start, end in form)


def edges_of(form):
    """The single steps of all strokes, as pairs of knots."""
    told = []
    for _, start, end in form:
        heading, = headings_to(start, end)
        while start != end:
            after = moved(start, heading, 1)
            told.append((start, after))
            start = after
    return told


def beginnings(form):
    """How often a program must begin anew, by odd knots and pieces, reckoned by joining sets of knots."""
    pieces = {}
    many = collections.Counter()
    for start, end in edges_of(form):
        many.update((start, end))
        one, other = [pieces.setdefault(knot, {knot}) for knot in (start, end)]
        if one is not other:
            one |= other
            for knot in other:
                pieces[knot] = one
    whole = {id(piece): piece for piece in pieces.values()}.values()
    return sum(max(1, sum(many[knot] % 2 for knot in piece) // 2) for piece in whole)


class MakerCase(unittest.TestCase):
    def assert_made(self, form, anew=None):
        """A plain program is made that draws just the form, each piece once, by so few beginnings."""
        with self.subTest(form=form):
            program = made_of(form)
            self.assertEqual(made_of(form), program)
            self.assertIs(check(program), True)
            words, body = program
            self.assertEqual(words, ())
            for statement in body:
                self.assertIn(statement[0], ("go", "turn", "up", "down", "ink"))
                self.assertTrue(all(type(amount) is int for amount in statement[1:]))
            strokes, _, _, _, done = run(program, 4000)
            self.assertIs(done, True)
            self.assertLessEqual(size_of(program), 4000)
            self.assertIsNone(unlike(form_of(strokes), form))
            self.assertEqual(form_of(strokes), form)
            lengths = [length_of(form_of([stroke])) for stroke in strokes]
            self.assertEqual(tuple(sum(length[at] for length in lengths) for at in (0, 1)), length_of(form))
            self.assertEqual(begins_anew(strokes), beginnings(form))
            if anew is not None:
                self.assertEqual(begins_anew(strokes), anew)
            return program

    def assert_refused(self, error, form):
        with self.subTest(form=form[:3]):
            for _ in range(2):
                with self.assertRaises(HouseError) as caught:
                    made_of(form)
                self.assertIs(type(caught.exception), error)


class SmallDrawingsTest(MakerCase):
    def test_no_strokes(self):
        self.assertEqual(self.assert_made((), 0), ((), ()))

    def test_one_stroke(self):
        for heading in range(8):
            for start in (BEGINNING, place(3, 2, -5, 4), place(0, 1, 0, -3), place(-2, 7, 1, 5)):
                for steps in (1, 2, 17, 200):
                    self.assert_made(form_of([(3, start, moved(start, heading, steps))]), 1)

    def test_each_ink(self):
        for ink in range(8):
            self.assert_made(((ink, BEGINNING, place(1)),), 1)

    def test_a_square(self):
        self.assert_made(drawn_by("again 4 ( go 3 turn 2 )"), 1)
        self.assert_made(drawn_by("again 8 ( go 3 turn 1 )"), 1)
        self.assert_made(drawn_by("turn 1 again 4 ( go 3 turn 2 )"), 1)

    def test_a_square_with_diagonals_that_are_no_whole_number_of_steps(self):
        square = drawn_by("again 4 ( go 1 turn 2 )")
        self.assert_refused(NotWhole, tuple(sorted(square + ((0, BEGINNING, place(1, 0, 1)),))))

    def test_stars(self):
        # Strokes that cross where no edge ends hang together at their ends alone.
        self.assert_made(drawn_by("again 8 ( go 4 turn 3 )"), 1)
        self.assert_made(drawn_by("again 8 ( go 3 turn 3 )"), 1)
        for many in range(1, 9):
            self.assert_made(drawn_by(f"again {many} ( go 2 go -2 turn 1 )"), (many + 1) // 2)

    def test_lines_that_cross_at_a_knot(self):
        self.assert_made(drawn_by("up go -1 down go 2 up go -1 turn 2 go -1 down go 2"), 2)
        aslant = [(0, BEGINNING, place(0, 3, 0, 3)), (0, place(0, 0, 0, 2), place(0, 2, 0, 0))]
        self.assert_made(form_of(aslant), 2)

    def test_lines_that_cross_where_no_edge_ends(self):
        # The second one crosses between two steps of the first: two pieces.
        apart = [(0, BEGINNING, place(1)), (0, place(-1, 2, -1, 0), place(-1, 2, 1, 0))]
        self.assert_made(form_of(apart), 2)
        square = "again 4 ( go 3 turn 2 )"
        self.assert_made(drawn_by(f"{square} up go 1 turn 1 go 1 down {square}"), 2)

    def test_diagonals_that_cross_at_halves(self):
        self.assert_made(((0, BEGINNING, place(0, 1, 0, 1)), (0, place(1, -1, 0, 1), place(1))), 2)

    def test_pieces_that_do_not_hang_together(self):
        self.assert_made(drawn_by("go 2 up go 2 down go 2"), 2)
        self.assert_made(drawn_by("again 4 ( go 2 turn 2 ) up go 5 down again 4 ( go 1 turn 2 )"), 2)
        self.assert_made(drawn_by("again 10 ( go 1 up go 1 turn 1 go 3 down )"))
        self.assert_made(tuple((0, place(0, 0, at), place(1, 0, at)) for at in range(200)), 200)

    def test_unlike_inks_that_cover_the_same(self):
        for inks in range(1, 9):
            form = tuple((ink, BEGINNING, place(3)) for ink in range(inks))
            self.assert_made(form, 1)
        self.assert_made(((0, BEGINNING, place(3)), (1, place(1), place(5)), (6, place(2), place(3))))
        square = [(ink, start, end) for ink in (2, 5) for _, start, end in drawn_by("again 4 ( go 2 turn 2 )")]
        self.assert_made(form_of(square), 1)

    def test_unlike_inks_on_one_line_whose_steps_lie_between(self):
        self.assert_made(((0, BEGINNING, place(3)), (1, place(-1, 2), place(2, 2))), 2)

    def test_unlike_inks_that_hang_together(self):
        self.assert_made(((0, BEGINNING, place(2)), (1, place(2), place(4))), 1)
        self.assert_made(((0, BEGINNING, place(2)), (1, place(1), place(1, 0, 2)), (2, place(1, 0, -2), place(1))), 2)

    def test_knots_where_many_edges_end(self):
        strokes = [(ink, BEGINNING, moved(BEGINNING, heading, 1)) for ink in range(8) for heading in range(8)]
        self.assert_made(form_of(strokes), 1)
        strokes = [(ink, BEGINNING, moved(BEGINNING, heading, 3)) for ink in range(7) for heading in range(8)]
        self.assert_made(form_of(strokes), 4)
        strokes = [(ink, BEGINNING, moved(BEGINNING, heading, 1)) for ink in range(5) for heading in range(ink, 8)]
        self.assert_made(form_of(strokes))

    def test_odd_knots_that_hang_together_by_a_bridge(self):
        self.assert_made(drawn_by("go 1 turn 2 go 1 go -2 up go 1 turn -2 go -1 down turn 2 go 1 go -2"), 3)
        self.assert_made(drawn_by("again 4 ( go 2 turn 2 ) turn 4 go 3 turn -2 again 4 ( go 1 turn -2 )"), 1)

    def test_a_ladder_and_a_grid(self):
        for wide in range(1, 7):
            for high in range(1, 7):
                east = [(0, place(0, 0, at), place(wide, 0, at)) for at in range(high + 1)]
                north = [(0, place(at), place(at, 0, high)) for at in range(wide + 1)]
                self.assert_made(form_of(east + north), max(1, wide + high - 2))

    def test_the_first_way_begins_at_the_beginning_without_more_ado(self):
        self.assertEqual(self.assert_made(((0, BEGINNING, place(3)),), 1), read("go 3"))


class RoundsTest(MakerCase):
    """Rounds that are put in where a way comes by."""

    def test_rounds_on_a_line(self):
        self.assert_made(drawn_by("again 5 ( go 2 again 4 ( go 1 turn 2 ) )"))
        self.assert_made(drawn_by("again 5 ( go 2 turn 2 again 4 ( go 1 turn 2 ) turn -2 )"))

    def test_rounds_on_rounds(self):
        self.assert_made(drawn_by("again 4 ( go 4 turn 2 again 4 ( turn 2 go 2 turn 4 again 4 ( go 1 turn 2 ) ) )"))

    def test_a_chain_of_squares(self):
        self.assert_made(drawn_by("again 20 ( again 4 ( go 1 turn 2 ) go 1 turn 2 go 1 turn -2 )"))
        squares = [(0, place(at, 0, at), place(at + 1, 0, at)) for at in range(40)]
        squares += [(0, place(at, 0, at + 1), place(at + 1, 0, at + 1)) for at in range(40)]
        squares += [(0, place(at, 0, at), place(at, 0, at + 1)) for at in range(40)]
        squares += [(0, place(at + 1, 0, at), place(at + 1, 0, at + 1)) for at in range(40)]
        self.assert_made(form_of(squares), 1)

    def test_a_chain_of_there_and_back(self):
        # Each edge in two inks: every single knot is even, and each round of two edges hangs on another.
        self.assert_made(((0, BEGINNING, place(100)), (1, BEGINNING, place(100))), 1)
        self.assert_made(((0, BEGINNING, place(66)), (1, BEGINNING, place(66)), (2, BEGINNING, place(66))), 1)

    def test_rounds_that_hang_on_the_end_of_a_way(self):
        for heading in range(8):
            self.assert_made(drawn_by(f"go 3 turn {heading} again 4 ( go 2 turn 2 )"))
            self.assert_made(drawn_by(f"again 4 ( go 2 turn 2 ) turn {heading} go 3"))

    def test_pieces_with_and_without_odd_knots(self):
        self.assert_made(drawn_by("again 4 ( go 2 turn 2 ) up go 9 down go 3 turn 2 go 2 up go 3 down turn 2"
                                  " again 8 ( go 2 turn 1 ) up go 30 down again 3 ( go 1 go -1 turn 1 )"))


class LotsTest(MakerCase):
    def edges_by_lot(self, lot, many, inks, reach):
        strokes = []
        for _ in range(many):
            start = (lot.randint(0, reach), lot.randint(0, 1), lot.randint(0, reach), lot.randint(0, 1))
            start = place(start[0], 2 * start[1], start[2], 2 * start[3])
            strokes.append((lot.randrange(inks), start, moved(start, lot.randrange(8), lot.randint(1, 2))))
        return form_of(strokes)

    def test_edges_by_lot(self):
        many = 0
        for seed in range(150):
            lot = random.Random(seed)
            form = self.edges_by_lot(lot, 1 + seed % 40, 1 + seed % 4, 1 + seed % 5)
            if is_whole(form) and length_of(form)[0] <= 200:
                many += 1
                self.assert_made(form)
        self.assertGreater(many, 50)

    def test_walks_by_lot(self):
        many = 0
        for seed in range(90):
            lot = random.Random(seed)
            spot = BEGINNING
            strokes = []
            for _ in range(20 + seed):
                after = moved(spot, lot.choice((0, 2, 4, 6) if seed % 2 else range(8)), 1)
                strokes.append((lot.randrange(1 + seed % 3), spot, after))
                spot = after
            form = form_of(strokes)
            if is_whole(form):
                many += 1
                self.assert_made(form)
            else:
                self.assert_refused(NotWhole, form)
        self.assertGreater(many, 50)

    def test_drawings_of_programs(self):
        found = collections.Counter()
        for program in programs(300, seed=51, low=-4, high=4):
            try:
                form = form_of(run(program, 150)[0])
            except HouseError:
                continue
            try:
                made_of(form)
            except HouseError as refusal:
                found[type(refusal)] += 1
                continue
            found["made"] += 1
            self.assert_made(form)
        self.assertGreater(found["made"], 100)

    def test_two_hundred_edges_apart_and_far_away(self):
        strokes = []
        for at in range(200):
            corner = [(-1) ** (at >> bit & 1) * 499000 for bit in range(4)]
            start = place(corner[0] + at, corner[1] + 2 * at, corner[2] - at, corner[3] - 2 * at)
            strokes.append((at % 8, start, moved(start, at % 7, 1)))
        program = self.assert_made(form_of(strokes), 200)
        self.assertGreater(size_of(program), 1500)


class NotWholeTest(MakerCase):
    def test_each_direction(self):
        for start in (BEGINNING, place(1, 2, 3, 4), place(0, 1, 0, 1)):
            for way in range(len(WAYS)):
                for number in ((0, 2), (1, 2), (3, 2), (-1, 2), (3, -2), (0, 4)):
                    if way in (0, 2):
                        self.assert_refused(NotWhole, ((0, start, along(start, way, number)),))
                    elif number[0]:
                        self.assert_refused(NotWhole, ((0, start, along(start, way, number)),))
                for number in ((1, 0), (2, 0), (5, 0), (1, 1), (-1, 3)):
                    if way in (1, 3):
                        self.assert_refused(NotWhole, ((0, start, along(start, way, number)),))

    def test_whole_ones(self):
        for start in (BEGINNING, place(1, 2, 3, 4), place(0, 1, 0, 1)):
            for way in range(len(WAYS)):
                for steps in (1, 2, 5):
                    number = (steps, 0) if way in (0, 2) else (0, steps)
                    self.assert_made(((0, start, along(start, way, number)),), 1)

    def test_one_among_many(self):
        whole = tuple((0, place(0, 0, at), place(5, 0, at)) for at in range(10))
        self.assert_made(whole)
        self.assert_refused(NotWhole, tuple(sorted(whole + ((1, BEGINNING, place(0, 2)),))))
        self.assert_refused(NotWhole, tuple(sorted(whole + ((7, BEGINNING, place(1, 0, 1)),))))

    def test_two_that_come_to_whole_steps_together(self):
        self.assert_refused(NotWhole, ((0, BEGINNING, place(-1, 2)), (0, place(0, 0, 1), place(3, -2, 1))))
        self.assert_refused(NotWhole, ((0, BEGINNING, place(3, -2)), (1, BEGINNING, place(1, 1, 1, 1))))


class TooGreatTest(MakerCase):
    def test_each_int_of_each_end(self):
        for sign in (1, -1):
            for heading in range(8):
                for at in range(4):
                    for steps in (1, 3):
                        ints = [0, 0, 0, 0]
                        ints[at] = sign * 500000
                        just = place(*ints)
                        stroke = form_of([(0, just, moved(just, heading, steps))])
                        back = form_of([(0, just, moved(just, heading, -steps))])
                        for form in (stroke, back):
                            worst = max(abs(value) for _, *ends in form for spot in ends for number in spot
                                        for value in number)
                            if worst <= 500000:
                                self.assert_made(form, 1)
                            else:
                                self.assert_refused(TooGreat, form)

    def test_one_beyond(self):
        for at in range(4):
            for sign in (1, -1):
                ints = [0, 1, 0, 1]
                ints[at] = sign * 500001
                spot = place(*ints)
                for heading in range(8):
                    self.assert_refused(TooGreat, form_of([(0, spot, moved(spot, heading, 1))]))
                ints[at] = sign * 499999
                spot = place(*ints)
                for heading in range(8):
                    self.assert_made(form_of([(0, spot, moved(spot, heading, 1))]), 1)

    def test_from_one_corner_to_the_other(self):
        most = 500000
        for a in (most, -most):
            for b in (most, -most):
                for c in (most, -most):
                    for d in (most, -most):
                        one, other = place(a, b, c, d), place(-a, -b, -c, -d)
                        strokes = [(0, one, self.inwards(one)), (1, other, self.inwards(other))]
                        self.assert_made(form_of(strokes), 2)

    def inwards(self, spot):
        return moved(spot, 0, -1 if spot[0][0] > 0 else 1)

    def test_far_too_great(self):
        far = place(10 ** 12, 0, 0, 0)
        self.assert_refused(TooGreat, ((0, far, moved(far, 2, 1)),))
        self.assert_refused(TooGreat, ((0, place(-500001), place(-500000)),))
        self.assert_made(((0, place(-500000), place(-499999)),), 1)


class TooLongTest(MakerCase):
    def test_one_stroke(self):
        for heading in range(8):
            for start in (BEGINNING, place(3, 1, 4, 1)):
                self.assert_made(form_of([(0, start, moved(start, heading, 200))]), 1)
                self.assert_refused(TooLong, form_of([(0, start, moved(start, heading, 201))]))

    def test_many_strokes(self):
        just = tuple((0, place(0, 0, at), place(10, 0, at)) for at in range(20))
        self.assert_made(just, 20)
        self.assert_refused(TooLong, just + ((1, BEGINNING, place(1)),))

    def test_unlike_inks_apart(self):
        self.assert_made(tuple((ink, BEGINNING, place(25)) for ink in range(8)), 1)
        self.assert_refused(TooLong, tuple((ink, BEGINNING, place(26)) for ink in range(8)))

    def test_five_hundred_strokes(self):
        self.assert_refused(TooLong, tuple((0, place(0, 0, at), place(1, 0, at)) for at in range(500)))

    def test_a_great_length(self):
        self.assert_refused(TooLong, ((0, place(-500000), place(500000)),))


class OrderTest(MakerCase):
    BROKEN = (2, BEGINNING, place(0, 2))
    FAR = (1, place(500001), place(500002))
    LONG = (0, BEGINNING, place(201))

    def test_each_alone(self):
        self.assert_refused(NotWhole, (self.BROKEN,))
        self.assert_refused(TooGreat, (self.FAR,))
        self.assert_refused(TooLong, (self.LONG,))

    def test_two_at_once(self):
        self.assert_refused(NotWhole, (self.FAR, self.BROKEN))
        self.assert_refused(NotWhole, (self.LONG, self.BROKEN))
        self.assert_refused(TooGreat, (self.LONG, self.FAR))

    def test_all_three(self):
        self.assert_refused(NotWhole, (self.LONG, self.FAR, self.BROKEN))

    def test_by_one_stroke(self):
        self.assert_refused(NotWhole, ((0, BEGINNING, place(500001, 2)),))
        self.assert_refused(TooGreat, ((0, BEGINNING, place(500001)),))
        self.assert_refused(NotWhole, ((0, BEGINNING, place(300, 2)),))


if __name__ == "__main__":
    unittest.main()
