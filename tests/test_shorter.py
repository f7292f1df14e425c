"""Point 26: plain programs said shorter."""

import functools
import itertools
import random
import unittest

from tests.makings import plain_body
from turtlehouse.errors import HouseError, TooLong
from turtlehouse.notes import read, shown
from turtlehouse.plain import put_in
from turtlehouse.programs import check, size_of
from turtlehouse.shorter import shorter

ONE, OTHER, THIRD = ("go", 1), ("turn", 2), ("up",)


def least_size(statements):
    """The least size, by how the first statement of a program of rounds is said."""
    @functools.cache
    def least(start, end):
        if start == end:
            return 0
        best = 1 + least(start + 1, end)
        for step in range(1, (end - start) // 2 + 1):
            stop = start + step
            while stop + step <= end and statements[stop:stop + step] == statements[start:start + step]:
                stop += step
                best = min(best, 1 + least(start, start + step) + least(stop, end))
        return best
    return least(0, len(statements))


def all_bodies(letters, size, agains):
    """Each body of that size, of these statements and of agains by these amounts."""
    if size == 0:
        yield ()
    for first_size in range(1, size + 1):
        firsts = [("again", amount, body) for body in all_bodies(letters, first_size - 1, agains) for amount in agains]
        if first_size == 1:
            firsts.extend(letters)
        for rest in all_bodies(letters, size - first_size, agains):
            for first in firsts:
                yield (first,) + rest


def sizes_by_all_programs(letters, longest):
    """By each text of letters, at most so long, the least size of a program of rounds that says it."""
    told = {"": 0}
    statements = {}
    bodies = {0: {""}}
    for size in range(1, longest + 1):
        inner = bodies[size - 1]
        statements[size] = {word * many for word in inner for many in range(longest + 1) if len(word) * many <= longest}
        if size == 1:
            statements[size].update(letters)
        bodies[size] = {first + rest for first_size in range(1, size + 1) for first in statements[first_size]
                        for rest in bodies[size - first_size] if len(first + rest) <= longest}
        for word in bodies[size]:
            told.setdefault(word, size)
    return told


class ShorterCase(unittest.TestCase):
    def assert_of_rounds(self, body):
        for statement in body:
            self.assertIn(statement[0], ("go", "turn", "up", "down", "ink", "again"))
            if statement[0] == "again":
                self.assert_of_rounds(statement[2])
            if len(statement) > 1:
                self.assertIs(type(statement[1]), int)

    def assert_shorter(self, body, size=None):
        """What is told says the same by rounds, and is of that size, or of one reckoned otherwise."""
        with self.subTest(body=body):
            told = shorter(((), body))
            self.assertEqual(shorter(((), body)), told)
            self.assertIs(check(told), True)
            self.assertEqual(told[0], ())
            self.assert_of_rounds(told[1])
            self.assertEqual(put_in(told, 2000), ((), body))
            self.assertEqual(size_of(told), least_size(body) if size is None else size)
            return told

    def assert_text(self, text, told):
        program = read(text)
        self.assertEqual(shown(self.assert_shorter(put_in(program, 2000)[1])), told)


class FewStatementsTest(ShorterCase):
    def test_none(self):
        self.assertEqual(self.assert_shorter((), 0), ((), ()))

    def test_one(self):
        for statement in (("go", 0), ("go", -7), ("turn", 1000000), ("up",), ("down",), ("ink", 9)):
            self.assertEqual(self.assert_shorter((statement,), 1), ((), (statement,)))

    def test_two(self):
        self.assertEqual(self.assert_shorter((ONE, OTHER), 2), ((), (ONE, OTHER)))
        self.assert_shorter((ONE, ONE), 2)

    def test_three_alike(self):
        self.assertEqual(self.assert_shorter((ONE,) * 3, 2), ((), (("again", 3, (ONE,)),)))

    def test_statements_that_do_the_same_are_unlike(self):
        self.assert_shorter((("ink", 0), ("ink", 8), ("ink", -8), ("ink", 16)), 4)
        self.assert_shorter((("turn", 1), ("turn", 9), ("turn", -7)), 3)
        self.assert_shorter((("go", 0), ("turn", 0), ("ink", 0)), 3)
        self.assert_shorter((("go", 1), ("turn", 1), ("ink", 1), ("go", 1), ("turn", 1), ("ink", 2)), 6)

    def test_nothing_is_left_out_or_joined(self):
        self.assert_shorter((("go", 1), ("go", -1)), 2)
        self.assert_shorter((("go", 1), ("go", 2)), 2)
        self.assert_shorter((("up",), ("down",), ("up",)), 3)
        self.assert_shorter((("go", 0),) * 5, 2)


class RoundsTest(ShorterCase):
    def test_a_square(self):
        self.assert_text("again 4 ( go 2 turn 2 )", "again 4 ( go 2 turn 2 )")

    def test_rounds_within_rounds(self):
        self.assert_text("again 5 ( again 3 ( go 1 turn 1 ) up )", "again 5 ( again 3 ( go 1 turn 1 ) up )")
        self.assert_text("again 3 ( up again 3 ( down again 3 ( go 1 ) ) )",
                         "again 3 ( up again 3 ( down again 3 ( go 1 ) ) )")
        self.assert_text("ink 1 again 4 ( go 1 again 5 ( turn 1 ) ink 2 ) ink 1 go 1",
                         "ink 1 again 4 ( go 1 again 5 ( turn 1 ) ink 2 ) ink 1 go 1")

    def test_rounds_within_rounds_that_come_to_one(self):
        self.assert_text("again 4 ( again 3 ( go 1 ) )", "again 12 ( go 1 )")
        self.assert_text("again 1 ( go 1 turn 1 again 0 ( up ) )", "go 1 turn 1")

    def test_five_deep(self):
        text = "again 2 ( again 2 ( again 2 ( again 2 ( go 1 go 2 ) up ) down ) turn 1 )"
        body = put_in(read(text), 2000)[1]
        self.assertLessEqual(len(body), 60)
        self.assert_shorter(body, 9)

    def test_stretches_that_overlap(self):
        # One and another, told so that the rounds could begin at either.
        self.assert_shorter((ONE, OTHER) * 3 + (ONE,), 4)
        self.assert_shorter((OTHER,) + (ONE, OTHER) * 3, 4)
        self.assert_shorter((ONE, ONE, ONE, OTHER) * 2 + (ONE, ONE, ONE), 6)
        self.assert_shorter((ONE,) * 4 + (ONE, OTHER) * 4, 5)
        self.assert_shorter((ONE, OTHER, ONE, OTHER, ONE, THIRD) * 2, None)

    def test_rounds_count_as_much_as_what_they_hold(self):
        # Of each of these there is a program with fewer statements that are no agains, and larger in all.
        for word, size in (("aaababababaabaabababab", 11), ("aababaabaabaabaabaababaabaababaab", 15),
                           ("abbabbbababbabbabbabababbabb", 16), ("bbabaabbbbabbabaabbabbabaabbabbabaabba", 17)):
            body = tuple({"a": ONE, "b": OTHER}[letter] for letter in word)
            self.assertEqual(least_size(body), size)
            self.assert_shorter(body, size)

    def test_a_round_that_is_no_shorter_within(self):
        self.assert_shorter((ONE, ONE, OTHER) * 2, 4)
        self.assert_shorter((ONE, OTHER, ONE, OTHER), 3)

    def test_a_period_that_does_not_come_out_even(self):
        self.assert_shorter((ONE, OTHER, THIRD) * 3 + (ONE, OTHER), 6)
        self.assert_shorter((ONE, OTHER, THIRD) * 3 + (ONE,), 5)
        self.assert_shorter((ONE, OTHER) * 5 + (THIRD,) + (ONE, OTHER) * 5, 7)


class SixtyTest(ShorterCase):
    def test_all_alike(self):
        self.assertEqual(self.assert_shorter((ONE,) * 60, 2), ((), (("again", 60, (ONE,)),)))
        self.assert_shorter((ONE,) * 59, 2)

    def test_all_unlike(self):
        body = tuple(("go", at) for at in range(60))
        self.assertEqual(self.assert_shorter(body, 60), ((), body))

    def test_each_period(self):
        for step in range(1, 61):
            body = tuple(("turn", at % step) for at in range(60))
            self.assert_shorter(body)

    def test_by_lot(self):
        for letters in ((ONE, OTHER), (ONE, OTHER, THIRD), (ONE, ONE, ONE, OTHER)):
            for seed in range(12):
                lot = random.Random(seed)
                self.assert_shorter(tuple(lot.choice(letters) for _ in range(60)))

    def test_plain_programs_by_lot(self):
        for seed in range(20):
            self.assert_shorter(plain_body(random.Random(seed), 60, low=0, high=1))

    def test_programs_of_rounds_by_lot(self):
        """No greater than what the statements were made of."""
        lot = random.Random(9)
        many = 0
        while many < 60:
            program = ((), self.rounds(lot, 3))
            body = put_in(program, 2000)[1]
            if 10 <= len(body) <= 60:
                many += 1
                told = self.assert_shorter(body)
                self.assertLessEqual(size_of(told), size_of(program))

    def rounds(self, lot, depth):
        told = []
        for _ in range(lot.randint(1, 3)):
            if depth and lot.random() < 0.6:
                told.append(("again", lot.randint(2, 4), self.rounds(lot, depth - 1)))
            else:
                told.append(lot.choice((ONE, OTHER, THIRD)))
        return tuple(told)

    def test_sixty_one(self):
        for body in ((ONE,) * 61, tuple(("go", at) for at in range(61)), (ONE,) * 100, (ONE, OTHER) * 950):
            for _ in range(2):
                with self.assertRaises(HouseError) as caught:
                    shorter(((), body))
                self.assertIs(type(caught.exception), TooLong)


class AllProgramsTest(ShorterCase):
    def assert_as_by_all(self, letters, longest):
        statements = dict(zip("abc", (ONE, OTHER, THIRD)))
        sizes = sizes_by_all_programs(letters, longest)
        self.assertEqual(len(sizes), sum(len(letters) ** length for length in range(longest + 1)))
        for word, size in sizes.items():
            body = tuple(statements[letter] for letter in word)
            self.assertEqual(size_of(shorter(((), body))), size, word)

    def test_two_statements(self):
        self.assert_as_by_all("ab", 10)

    def test_three_statements(self):
        self.assert_as_by_all("abc", 6)

    def test_one_statement(self):
        self.assert_as_by_all("a", 30)

    def test_each_program_of_rounds(self):
        """Each one of up to four statements, put in: none says what it says by fewer than shorter does."""
        found = {}
        for size in range(5):
            for body in all_bodies((ONE, OTHER), size, (0, 1, 2, 3, 4)):
                found.setdefault(put_in(((), body), 2000)[1], size)
        for body, size in found.items():
            told = shorter(((), body)) if len(body) <= 60 else None
            if told is not None:
                self.assertLessEqual(size_of(told), size)
                self.assertEqual(put_in(told, 2000), ((), body))
        for length in range(5):
            for body in itertools.product((ONE, OTHER), repeat=length):
                self.assertEqual(size_of(shorter(((), body))), found[body])


if __name__ == "__main__":
    unittest.main()
