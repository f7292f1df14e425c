"""Points 7 to 10: what is a program, and its size."""

import copy
import unittest

from tests.samples import EACH_STATEMENT, GO, MOST, NO_WORDS, SAMPLE, nested, with_amount
from turtlehouse.programs import check, size_of


class ProgramCase(unittest.TestCase):
    def assert_program(self, program, size=None):
        self.assertIs(check(program), True)
        self.assertIs(check(program), True)
        if size is not None:
            answer = size_of(program)
            self.assertEqual(answer, size)
            self.assertIs(type(answer), int)
            self.assertEqual(size_of(program), size)

    def assert_own_body(self, *statements):
        with self.subTest(statements=statements):
            self.assert_program((NO_WORDS, statements))

    def assert_word_body(self, many, *statements):
        with self.subTest(many=many, statements=statements):
            self.assert_program(((("side", many, statements),), ()))


class WholeTest(ProgramCase):
    def test_the_empty_program(self):
        self.assert_program(((), ()), 0)

    def test_the_sample(self):
        self.assert_program(SAMPLE, 17)

    def test_the_sample_stays_as_it_is(self):
        kept = copy.deepcopy(SAMPLE)
        check(SAMPLE)
        size_of(SAMPLE)
        self.assertEqual(SAMPLE, kept)


class WordsTest(ProgramCase):
    def test_up_to_six_words(self):
        for many in range(7):
            words = tuple(("abcdef"[at], 0, ()) for at in range(many))
            self.assert_program((words, ()), 0)

    def test_names_of_one_to_eight_letters(self):
        for name in ("a", "z", "side", "abcdefgh", "zzzzzzzz", "aaaaaaaa"):
            with self.subTest(name=name):
                self.assert_program((((name, 0, ()),), (("do", name, ()),)))

    def test_each_small_letter(self):
        for letter in "abcdefghijklmnopqrstuvwxyz":
            self.assert_program((((letter, 0, ()),), ()))

    def test_names_may_be_like_other_words(self):
        for name in ("go", "turn", "again", "if", "do", "count", "word", "else"):
            with self.subTest(name=name):
                self.assert_program((((name, 0, (GO,)),), (("do", name, ()),)))

    def test_names_that_begin_alike_are_unlike(self):
        self.assert_program(((("a", 0, ()), ("aa", 0, ()), ("ab", 0, ())), ()))

    def test_a_word_takes_none_to_four_numbers(self):
        for many in range(5):
            with self.subTest(many=many):
                words = (("side", many, ()),)
                self.assert_program((words, (("do", "side", tuple(range(many))),)))

    def test_a_word_does_any_word_ahead(self):
        words = (
            ("a", 0, ()),
            ("b", 1, (("do", "a", ()),)),
            ("c", 0, (("do", "a", ()), ("again", 2, (("do", "b", (1,)),)))),
        )
        body = (("do", "a", ()), ("do", "b", (4,)), ("if", 1, (("do", "c", ()),), ()))
        self.assert_program((words, body), 8)


class StatementsTest(ProgramCase):
    def test_each_statement_with_an_amount(self):
        for first in ("go", "turn", "ink"):
            for amount in (0, 1, -1, 8, 999999, MOST, -MOST):
                self.assert_own_body((first, amount))

    def test_up_and_down(self):
        self.assert_own_body(("up",))
        self.assert_own_body(("down",))
        self.assert_own_body(("up",), ("up",), ("down",))

    def test_marks(self):
        for number in range(10):
            self.assert_own_body(("mark", number))
            # Whether a mark was made is for the run to tell.
            self.assert_own_body(("back", number))

    def test_agains_and_ifs(self):
        for amount in (0, 1, -1, MOST, -MOST):
            self.assert_own_body(("again", amount, ()))
            self.assert_own_body(("again", amount, (GO, GO)))
            self.assert_own_body(("if", amount, (), ()))
            self.assert_own_body(("if", amount, (GO,), ()))
            self.assert_own_body(("if", amount, (), (GO,)))

    def test_do_in_any_body(self):
        words = (("side", 1, ()),)
        do = ("do", "side", (1,))
        for body in ((do,), (("again", 2, (do,)),), (("if", 1, (do,), (do,)),)):
            with self.subTest(body=body):
                self.assert_program((words, body))


class AmountsTest(ProgramCase):
    def test_count_within_an_again(self):
        for statement in with_amount((1, "count", 0)):
            self.assert_own_body(("again", 3, (statement,)))
            self.assert_word_body(0, ("again", 3, (statement,)))

    def test_count_deeper_within_an_again(self):
        for statement in with_amount((-2, "count", 7)):
            self.assert_own_body(("again", 3, (("if", 1, (statement,), ()),)))
            self.assert_own_body(("again", 3, (("if", 1, (), (statement,)),)))
            self.assert_own_body(("again", 3, (("again", 1, (statement,)),)))

    def test_count_behind_an_again_within_another(self):
        inner = ("again", 2, ())
        self.assert_own_body(("again", 3, (inner, ("go", (1, "count", 0)))))

    def test_numbers_of_a_word(self):
        for many in range(1, 5):
            for at in range(many):
                for statement in with_amount((1, "n" + str(at), 0)):
                    self.assert_word_body(many, statement)
                    self.assert_word_body(many, ("again", 2, (statement,)))
                    self.assert_word_body(many, ("if", 2, (), (statement,)))

    def test_times_and_more_up_to_their_bounds(self):
        for times in (MOST, -MOST, 0):
            for more in (MOST, -MOST, 0):
                self.assert_word_body(1, ("go", (times, "n0", more)))
                self.assert_own_body(("again", 2, (("go", (times, "count", more)),)))

    def test_amounts_of_a_do(self):
        do = ("do", "side", (MOST, -MOST, (1, "count", 0)))
        words = (("side", 3, ()),)
        self.assert_program((words, (("again", 2, (do,)),)))

    def test_amounts_of_a_do_in_a_word(self):
        words = (
            ("side", 2, ()),
            ("all", 2, (("do", "side", ((MOST, "n1", -MOST), (0, "n0", 0))),)),
        )
        self.assert_program((words, ()))


class SizeTest(ProgramCase):
    def test_sizes_of_small_programs(self):
        self.assert_program(((), (GO,)), 1)
        self.assert_program(((), (GO, GO, ("up",))), 3)
        self.assert_program(((), (("again", 5, ()),)), 1)
        self.assert_program(((), (("again", 5, (GO, GO)),)), 3)
        self.assert_program(((), (("if", 5, (GO, GO), (GO, GO, GO)),)), 6)
        self.assert_program(((("a", 0, (GO,)), ("b", 0, (GO, GO))), (GO,)), 4)
        # What a word does is counted where the word stands, not where it is done.
        self.assert_program(((("a", 0, (GO, GO)),), (("do", "a", ()),) * 3), 5)

    def test_sizes_of_nested_bodies(self):
        for depth in range(7):
            for kind in ("again", "if", "else"):
                body = nested([kind] * depth, (GO, GO))
                self.assert_program(((), body), depth + 2)
                self.assert_program(((("a", 0, body),), body), 2 * depth + 4)

    def test_just_4000_statements(self):
        self.assert_program(((), (GO,) * 4000), 4000)
        self.assert_program(((), (("again", 1, (GO,) * 3999),)), 4000)
        self.assert_program(((), (("if", 1, (GO,) * 2000, (GO,) * 1999),)), 4000)
        self.assert_program(((("a", 0, (GO,) * 4000),), ()), 4000)
        self.assert_program(((("a", 0, (GO,) * 1000), ("b", 0, (GO,) * 1000)), (GO,) * 2000), 4000)
        self.assert_program(((), nested(["again"] * 6, (GO,) * 3994)), 4000)

    def test_just_4000_of_each_statement(self):
        for statement in EACH_STATEMENT:
            with self.subTest(statement=statement):
                self.assert_program(((("side", 0, ()),), (statement,) * 4000), 4000)

    def test_size_somewhat_beyond_the_bounds(self):
        self.assertEqual(size_of(((), (GO,) * 4001)), 4001)
        self.assertEqual(size_of(((), nested(["again"] * 9, (GO,) * 5000))), 5009)


class DepthTest(ProgramCase):
    def test_six_one_within_another(self):
        self.assert_program(((), nested(["again"] * 6)))
        self.assert_program(((), nested(["if"] * 6)))
        self.assert_program(((), nested(["else"] * 6)))
        self.assert_program(((), nested(["again", "if", "else"] * 2, (GO,))))

    def test_six_in_the_body_of_a_word(self):
        self.assert_program(((("a", 0, nested(["again"] * 6)),), ()))

    def test_six_in_several_spots(self):
        body = nested(["again"] * 6) + nested(["if"] * 6) + (GO,)
        self.assert_program(((), body))

    def test_those_of_a_word_that_is_done_do_not_count(self):
        words = (("a", 0, nested(["again"] * 6)),)
        self.assert_program((words, nested(["if"] * 6, (("do", "a", ()),))))


if __name__ == "__main__":
    unittest.main()
