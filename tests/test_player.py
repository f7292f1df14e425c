"""Point 29: a player."""

import random
import unittest

from tests.makings import programs
from tests.samples import SAMPLE
from turtlehouse.errors import HouseError, NoMark, TooGreat
from turtlehouse.forms import form_of
from turtlehouse.notes import read
from turtlehouse.player import Player
from turtlehouse.runs import run

BEGINNING = ((0, 0), (0, 0))
SQUARE = read("again 4 ( go 2 turn 2 )")


class PlayerCase(unittest.TestCase):
    def assert_stands(self, player, strokes, at):
        """What a player tells that has played so many of some strokes."""
        self.assertIs(type(player.played()), int)
        self.assertEqual(player.played(), at)
        self.assertIs(type(player.left()), int)
        self.assertEqual(player.left(), len(strokes) - at)
        self.assertIs(type(player.drawn()), tuple)
        self.assertEqual(player.drawn(), form_of(strokes[:at]))
        self.assertEqual(player.place(), strokes[at - 1][2] if at else BEGINNING)

    def assert_plays(self, program, most):
        """To the last stroke and beyond, and back to the first one and beyond."""
        strokes = run(program, most)[0]
        player = Player(program, most)
        self.assert_stands(player, strokes, 0)
        self.assertIsNone(player.take_back())
        for at, stroke in enumerate(strokes):
            self.assertEqual(player.play(), stroke)
            self.assert_stands(player, strokes, at + 1)
        for _ in range(3):
            self.assertIsNone(player.play())
            self.assert_stands(player, strokes, len(strokes))
        for at, stroke in reversed(list(enumerate(strokes))):
            self.assertEqual(player.take_back(), stroke)
            self.assert_stands(player, strokes, at)
        for _ in range(3):
            self.assertIsNone(player.take_back())
            self.assert_stands(player, strokes, 0)
        self.assertEqual(player.play(), strokes[0] if strokes else None)


class PlayerTest(PlayerCase):
    def test_a_square(self):
        self.assert_plays(SQUARE, 4000)
        player = Player(SQUARE, 4000)
        self.assertEqual(player.left(), 4)
        self.assertEqual(player.play(), (0, BEGINNING, ((2, 0), (0, 0))))
        self.assertEqual(player.play(), (0, ((2, 0), (0, 0)), ((2, 0), (2, 0))))
        self.assertEqual(player.place(), ((2, 0), (2, 0)))
        self.assertEqual(player.drawn(), ((0, BEGINNING, ((2, 0), (0, 0))), (0, ((2, 0), (0, 0)), ((2, 0), (2, 0)))))
        self.assertEqual(player.take_back(), (0, ((2, 0), (0, 0)), ((2, 0), (2, 0))))
        self.assertEqual(player.place(), ((2, 0), (0, 0)))

    def test_programs_that_draw_nothing(self):
        for text in ("", "up go 5", "go 0", "turn 3 ink 1 mark 1 back 1", "again 0 ( go 1 )"):
            self.assert_plays(read(text), 4000)
            player = Player(read(text), 4000)
            self.assertIsNone(player.play())
            self.assertIsNone(player.take_back())
            self.assertEqual((player.played(), player.left(), player.drawn(), player.place()), (0, 0, (), BEGINNING))

    def test_the_place_is_that_of_the_strokes(self):
        # The hand itself begins elsewhere and goes on: the pen is where the last stroke played ended.
        player = Player(read("up go 5 down go 1 up go 5"), 4000)
        self.assertEqual(player.place(), BEGINNING)
        player.play()
        self.assertEqual(player.place(), ((6, 0), (0, 0)))
        player.play()
        self.assertEqual(player.place(), ((6, 0), (0, 0)))
        player.take_back()
        self.assertEqual(player.place(), BEGINNING)

    def test_strokes_that_lie_upon_one_another(self):
        player = Player(read("go 4 go -2 go 1"), 4000)
        forms = []
        while player.play() is not None:
            forms.append(player.drawn())
        self.assertEqual(forms, [((0, BEGINNING, ((4, 0), (0, 0))),)] * 3)
        self.assertEqual(player.place(), ((3, 0), (0, 0)))

    def test_stopped_at_so_many_deeds(self):
        for most in range(14):
            self.assert_plays(SQUARE, most)
        lefts = [Player(SQUARE, most).left() for most in range(14)]
        self.assertEqual(lefts, [0, 0, 0, 1, 1, 1, 2, 2, 2, 3, 3, 3, 4, 4])

    def test_in_any_order(self):
        for seed in range(20):
            lot = random.Random(seed)
            program = read("again 6 ( ink 1*count+0 go 1*count+-2 turn 3 )")
            strokes = run(program, 4000)[0]
            player = Player(program, 4000)
            at = 0
            for _ in range(60):
                if lot.random() < 0.55:
                    self.assertEqual(player.play(), strokes[at] if at < len(strokes) else None)
                    at = min(at + 1, len(strokes))
                else:
                    self.assertEqual(player.take_back(), strokes[at - 1] if at else None)
                    at = max(at - 1, 0)
                self.assert_stands(player, strokes, at)

    def test_two_players_of_one_program(self):
        one, other = Player(SQUARE, 4000), Player(SQUARE, 4000)
        first = one.play()
        one.play()
        self.assertEqual((one.played(), other.played()), (2, 0))
        self.assertEqual(other.play(), first)
        other.take_back()
        self.assertEqual((one.left(), other.left()), (2, 4))
        self.assertEqual((one.place(), other.place()), (((2, 0), (2, 0)), BEGINNING))
        self.assertEqual(other.drawn(), ())

    def test_asking_changes_nothing(self):
        player = Player(SQUARE, 4000)
        player.play()
        for _ in range(3):
            self.assert_stands(player, run(SQUARE, 4000)[0], 1)

    def test_by_lot(self):
        many = 0
        for program in [SAMPLE, *programs(80, seed=61)]:
            try:
                run(program, 60)
            except HouseError:
                continue
            many += 1
            with self.subTest(program=program):
                self.assert_plays(program, 60)
        self.assertGreater(many, 40)


class RefusalTest(PlayerCase):
    def assert_refused(self, error, text, most=4000):
        with self.subTest(text=text, most=most):
            for maker in (run, Player):
                with self.assertRaises(HouseError) as caught:
                    maker(read(text), most)
                self.assertIs(type(caught.exception), error)

    def test_no_mark(self):
        self.assert_refused(NoMark, "back 1")
        self.assert_refused(NoMark, "go 1 go 2 mark 2 back 1")

    def test_too_great(self):
        self.assert_refused(TooGreat, "word a 1 ( go 2*n0+0 ) do a 500001")

    def test_the_one_that_is_due_first(self):
        self.assert_refused(NoMark, "word a 1 ( go 2*n0+0 ) back 1 do a 1000000")
        self.assert_refused(TooGreat, "word a 1 ( go 2*n0+0 ) do a 1000000 back 1")

    def test_not_where_the_run_is_stopped_ahead(self):
        self.assert_refused(NoMark, "go 1 back 1", 2)
        self.assert_plays(read("go 1 back 1"), 1)
        self.assert_plays(read("go 1 back 1"), 0)

    def test_by_lot(self):
        refused = 0
        for program in programs(80, seed=62):
            try:
                run(program, 200)
            except HouseError as refusal:
                refused += 1
                with self.assertRaises(HouseError) as caught:
                    Player(program, 200)
                self.assertIs(type(caught.exception), type(refusal))
        self.assertGreater(refused, 5)


if __name__ == "__main__":
    unittest.main()
