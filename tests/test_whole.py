"""Point 3: what is promised over the whole program."""

import collections
import random
import unittest

from tests.makings import begins_anew, plain_body, programs
from tests.samples import SAMPLE
from turtlehouse.backward import backwards
from turtlehouse.changes import larger, mirrored, turned
from turtlehouse.errors import HouseError, TooLong
from turtlehouse.floor import mirrored_place, turned_place
from turtlehouse.forms import form_of, unlike
from turtlehouse.maker import made_of
from turtlehouse.measures import box_of, covers, length_of, meetings
from turtlehouse.notes import read, shown
from turtlehouse.plain import put_in
from turtlehouse.player import Player
from turtlehouse.programs import check, size_of
from turtlehouse.runs import run
from turtlehouse.shorter import shorter
from turtlehouse.ways import area_of, rounds_of

AS_IT_BEGINS = (((0, 0), (0, 0)), 0, True, 0)


def enlarged_place(place, factor):
    return tuple((factor * number[0], factor * number[1]) for number in place)


class WholeTest(unittest.TestCase):
    """Each promise at each of many programs, one behind another."""

    def runs(self):
        """Programs, what they are put in as, and their runs; as many as are done without a refusal."""
        for program in [SAMPLE, *programs(500, seed=71, low=-5, high=5)]:
            try:
                told = run(program, 300)
                plain = put_in(program, 300)
            except HouseError:
                continue
            yield program, plain, told

    def assert_read_again(self, program):
        self.assertIs(check(program), True)
        text = shown(program)
        self.assertEqual(read(text), program)
        self.assertEqual(shown(read(text)), text)

    def assert_draws(self, program, strokes):
        told = run(program, 4000)
        self.assertEqual(told[0], strokes)
        self.assertIs(told[4], True)

    def changed(self, strokes, change):
        return [(ink, change(start), change(end)) for ink, start, end in strokes]

    def test_there_are_enough(self):
        self.assertGreater(sum(len(told[0]) > 3 for _, _, told in self.runs()), 60)

    def test_written_and_read(self):
        for program, plain, told in self.runs():
            for one in (program, plain, mirrored(program), larger(program, 2), turned(program, 3), backwards(plain)):
                self.assert_read_again(one)
            self.assertEqual(run(read(shown(program)), 300), told)

    def test_put_in_it_does_what_it_did(self):
        for program, plain, told in self.runs():
            other = run(plain, 4000)
            self.assertEqual((other[0], other[2]), (told[0], told[2]))
            self.assertEqual(put_in(plain, 2000), plain)

    def test_drawings_are_alike_where_they_cover_the_same(self):
        forms = []
        for program, plain, told in self.runs():
            form = form_of(told[0])
            self.assertIsNone(unlike(form, form_of(run(plain, 4000)[0])))
            back = form_of(run(((), plain[1] + backwards(plain)[1]), 4000)[0])
            self.assertIsNone(unlike(form, back))
            self.assertEqual(form, back)
            forms.append(form[:60])
        for one, other in zip(forms, forms[1:]):
            piece = unlike(one, other)
            self.assertEqual(piece is None, one == other)
            if piece is not None:
                which, ink, start, end = piece
                has, lacks = (one, other) if which == 0 else (other, one)
                self.assertEqual(form_of(list(has) + [(ink, start, end)]), has)
                self.assertNotEqual(form_of(list(lacks) + [(ink, start, end)]), lacks)
                self.assertEqual(tuple(map(sum, zip(length_of(lacks), length_of(((ink, start, end),))))),
                                 length_of(form_of(list(lacks) + [(ink, start, end)])))

    def test_changed_programs_draw_changed_drawings(self):
        for program, plain, told in self.runs():
            for one in (program, plain):
                self.assert_draws(mirrored(one), self.changed(told[0], mirrored_place))
                self.assert_draws(larger(one, 3), self.changed(told[0], lambda place: enlarged_place(place, 3)))
                for eighths in range(8):
                    self.assert_draws(turned(one, eighths),
                                      self.changed(told[0], lambda place: turned_place(place, eighths)))

    def test_backwards(self):
        for program, plain, told in self.runs():
            both = run(((), plain[1] + backwards(plain)[1]), 4000)
            self.assertEqual(both[0], told[0] + [(ink, end, start) for ink, start, end in told[0][::-1]])
            self.assertEqual(both[2], AS_IT_BEGINS)

    def test_said_shorter(self):
        found = collections.Counter()
        for program, plain, told in self.runs():
            if len(plain[1]) > 60:
                with self.assertRaises(TooLong):
                    shorter(plain)
                continue
            short = shorter(plain)
            self.assertEqual(put_in(short, 2000), plain)
            self.assertLessEqual(size_of(short), size_of(plain))
            self.assert_read_again(short)
            again = run(short, 4000)
            self.assertEqual((again[0], again[2]), (told[0], told[2]))
            found[size_of(short) < size_of(plain)] += 1
        self.assertGreater(found[True], 20)

    def test_measured(self):
        for program, plain, told in self.runs():
            form = form_of(told[0])[:50]
            other = form_of(self.changed(form, lambda place: turned_place(place, 1)))
            self.assertEqual(length_of(other), length_of(form))
            self.assertEqual(len(meetings(other)), len(meetings(form)))
            for ink, start, end in form:
                self.assertTrue(covers(form, ink, start) and covers(form, ink, end))
                self.assertTrue(covers(other, ink, turned_place(start, 1)))
            if form:
                west, south, east, north = box_of(form)
                mirror = box_of(form_of(self.changed(form, mirrored_place)))
                self.assertEqual(mirror, (west, (-north[0], -north[1]), east, (-south[0], -south[1])))

    def test_ways_parted(self):
        parted = 0
        for program, plain, told in self.runs():
            way = told[1][:80]
            way = way + way[:1]
            spots = [((1, 0), (1, 0)), ((0, 1), (0, 1)), ((-1, 2), (3, 0)), ((-2, 1), (-1, 1))]
            for at in range(1, len(way) - 1):
                if way[at] not in way[:at]:
                    continue
                first = way.index(way[at])
                parts = (way[first:at + 1], way[:first] + way[at:], way)
                areas = [area_of(part) for part in parts]
                self.assertEqual((areas[0][0] + areas[1][0], areas[0][1] + areas[1][1]), areas[2])
                for spot in spots:
                    rounds = [rounds_of(part, spot) for part in parts]
                    if None not in rounds[:2]:
                        self.assertEqual(rounds[0] + rounds[1], rounds[2])
                parted += 1
                break
        self.assertGreater(parted, 60)

    def test_made_anew_of_the_drawing(self):
        found = collections.Counter()
        for program, plain, told in self.runs():
            form = form_of(told[0])
            try:
                made = made_of(form)
            except HouseError as refusal:
                found[type(refusal)] += 1
                continue
            found["made"] += 1
            self.assert_read_again(made)
            strokes = run(read(shown(made)), 4000)[0]
            self.assertEqual(form_of(strokes), form)
            self.assertIsNone(unlike(form_of(strokes), form))
            lengths = [length_of(form_of([stroke])) for stroke in strokes]
            self.assertEqual(tuple(sum(length[at] for length in lengths) for at in (0, 1)), length_of(form))
            if length_of(form) == tuple(sum(length_of(form_of([stroke]))[at] for stroke in told[0]) for at in (0, 1)):
                # The program itself draws each piece once: it begins anew no fewer times.
                found["once"] += 1
                self.assertLessEqual(begins_anew(strokes), begins_anew(told[0]))
            self.assertEqual(made_of(form_of(run(made, 4000)[0])), made)
            self.assertEqual(put_in(made, 2000), made)
        self.assertGreater(found["made"], 60)
        self.assertGreater(found["once"], 30)

    def test_played(self):
        for program, plain, told in self.runs():
            players = [Player(program, 300), Player(plain, 4000)]
            for player in players:
                for stroke in told[0]:
                    self.assertEqual(player.play(), stroke)
                self.assertIsNone(player.play())
                self.assertEqual(player.drawn(), form_of(told[0]))

    def test_the_same_each_time(self):
        for program, plain, told in self.runs():
            self.assertEqual(run(program, 300), told)
            told[0].clear()
            told[1].append("changed")
            again = run(program, 300)
            self.assertNotIn("changed", again[1])
            self.assertEqual(again[0], run(plain, 4000)[0])

    def test_plain_programs_the_whole_way_round(self):
        for seed in range(40):
            plain = ((), plain_body(random.Random(seed), 60, low=-3, high=3))
            short = shorter(plain)
            back = backwards(put_in(read(shown(short)), 2000))
            both = ((), plain[1] + back[1])
            self.assertEqual(run(both, 4000)[2], AS_IT_BEGINS)
            self.assertEqual(form_of(run(both, 4000)[0]), form_of(run(short, 4000)[0]))


if __name__ == "__main__":
    unittest.main()
