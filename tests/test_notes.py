"""Points 11 and 12: programs written as texts, and read again."""

import copy
import unittest

from tests.makings import programs
from tests.samples import GO, MOST, NO_WORDS, SAMPLE, nested
from turtlehouse.notes import read, shown
from turtlehouse.programs import check, size_of

EXAMPLE = "word side 1 ( go 1*n0+-2 turn 1 ) again 8 ( do side 2*count+5 )"
EXAMPLE_PROGRAM = (
    (("side", 1, (("go", (1, "n0", -2)), ("turn", 1))),),
    (("again", 8, (("do", "side", ((2, "count", 5),)),)),),
)


class NotesCase(unittest.TestCase):
    def assert_same_kinds(self, one, other):
        """Of the same kinds through and through: == alone takes True for 1."""
        self.assertIs(type(one), type(other))
        if isinstance(one, tuple):
            self.assertEqual(len(one), len(other))
            for first, second in zip(one, other):
                self.assert_same_kinds(first, second)
        else:
            self.assertEqual(one, other)

    def assert_written(self, program, text):
        with self.subTest(text=text[:100]):
            told = shown(program)
            self.assertIs(type(told), str)
            self.assertEqual(told, text)
            self.assertEqual(shown(program), text)
            for _ in range(2):
                self.assert_same_kinds(read(text), program)
            self.assertIs(check(read(text)), True)

    def assert_body(self, text, *statements):
        self.assert_written((NO_WORDS, statements), text)


class WholeTest(NotesCase):
    def test_the_example(self):
        self.assert_written(EXAMPLE_PROGRAM, EXAMPLE)

    def test_the_program_without_anything(self):
        self.assert_written(((), ()), "")

    def test_the_sample(self):
        self.assert_written(SAMPLE, (
            "word side 2 ( go 2*n0+-3 turn 1*n1+0 )"
            " word all 4 ( do side 1*n2+0 1*n3+0 again 1*n0+1 ( ink 3*count+1 up down ) )"
            " word none 0 ( )"
            " mark 3 again 8 ( do side 5 2*count+5 if 1*count+-3 ( back 3 ) else ( do none ) )"
            " do all 1 2 3 -4 go -7 turn 2 ink 0"
        ))

    def test_what_is_shown_stays_as_it_is(self):
        kept = copy.deepcopy(SAMPLE)
        shown(SAMPLE)
        self.assertEqual(SAMPLE, kept)

    def test_programs_made_by_lot(self):
        for program in programs(400):
            with self.subTest(program=program):
                text = shown(program)
                self.assert_same_kinds(read(text), program)
                self.assertNotIn("  ", text)
                self.assertEqual(text, text.strip())


class StatementsTest(NotesCase):
    def test_each_statement(self):
        self.assert_body("go 5", ("go", 5))
        self.assert_body("turn 3", ("turn", 3))
        self.assert_body("up", ("up",))
        self.assert_body("down", ("down",))
        self.assert_body("ink 7", ("ink", 7))
        self.assert_body("mark 0", ("mark", 0))
        self.assert_body("back 9", ("back", 9))
        self.assert_body("again 2 ( go 1 )", ("again", 2, (GO,)))
        self.assert_body("if 2 ( go 1 ) else ( up )", ("if", 2, (GO,), (("up",),)))
        self.assert_written(((("side", 0, ()),), (("do", "side", ()),)), "word side 0 ( ) do side")

    def test_statements_one_behind_another(self):
        self.assert_body("up down go 1 up", ("up",), ("down",), GO, ("up",))

    def test_each_mark(self):
        for number in range(10):
            self.assert_body(f"mark {number} back {number}", ("mark", number), ("back", number))

    def test_empty_bodies(self):
        self.assert_body("again 2 ( )", ("again", 2, ()))
        self.assert_body("if 2 ( ) else ( )", ("if", 2, (), ()))
        self.assert_body("if 2 ( up ) else ( )", ("if", 2, (("up",),), ()))
        self.assert_body("if 2 ( ) else ( up )", ("if", 2, (), (("up",),)))
        self.assert_written(((("side", 3, ()),), ()), "word side 3 ( )")

    def test_six_bodies_one_within_another(self):
        self.assert_body("again 1 ( " * 6 + "go 1" + " )" * 6, *nested(["again"] * 6, (GO,)))
        self.assert_body(
            "if 1 ( " * 6 + "go 1" + " ) else ( )" * 6, *nested(["if"] * 6, (GO,)))
        self.assert_body(
            "if 1 ( ) else ( " * 6 + "go 1" + " )" * 6, *nested(["else"] * 6, (GO,)))

    def test_six_in_a_word_and_six_in_the_own_body(self):
        deep = nested(["again", "if"] * 3, (GO,))
        self.assert_written(
            ((("a", 0, deep),), deep),
            "word a 0 ( again 1 ( if 1 ( again 1 ( if 1 ( again 1 ( if 1 ( go 1"
            " ) else ( ) ) ) else ( ) ) ) else ( ) ) )"
            " again 1 ( if 1 ( again 1 ( if 1 ( again 1 ( if 1 ( go 1"
            " ) else ( ) ) ) else ( ) ) ) else ( ) )",
        )


class AmountsTest(NotesCase):
    INTS = (-MOST, -MOST + 1, -10, -9, -1, 0, 1, 9, 10, 100, 999999, MOST)

    def test_ints(self):
        for value in self.INTS:
            for first in ("go", "turn", "ink"):
                self.assert_body(f"{first} {value}", (first, value))
            self.assert_body(f"again {value} ( )", ("again", value, ()))
            self.assert_body(f"if {value} ( ) else ( )", ("if", value, (), ()))

    def test_ints_by_their_figures(self):
        self.assert_body("go -1000000 turn -1 ink 0 go 1000000", ("go", -MOST), ("turn", -1), ("ink", 0), ("go", MOST))

    def test_sources(self):
        for at, source in enumerate(("n0", "n1", "n2", "n3")):
            for factor in self.INTS:
                for more in (-MOST, -2, 0, 3, MOST):
                    self.assert_written(
                        ((("side", at + 1, (("go", (factor, source, more)),)),), ()),
                        f"word side {at + 1} ( go {factor}*{source}+{more} )",
                    )

    def test_count(self):
        for first in ("go", "turn", "ink"):
            self.assert_body(f"again 2 ( {first} -3*count+-4 )", ("again", 2, ((first, (-3, "count", -4)),)))
        self.assert_body(
            "again 2 ( again 1*count+0 ( ) if 0*count+0 ( ) else ( ) )",
            ("again", 2, (("again", (1, "count", 0), ()), ("if", (0, "count", 0), (), ()))),
        )

    def test_amounts_of_a_do(self):
        for many in range(5):
            amounts = ((1, "count", -1), -7, 0, (0, "count", 0))[:many]
            texts = ["1*count+-1", "-7", "0", "0*count+0"][:many]
            self.assert_written(
                ((("side", many, ()),), (("again", 1, (("do", "side", amounts), ("up",))),)),
                " ".join([f"word side {many} ( ) again 1 ( do side"] + texts + ["up )"]),
            )


class NamesTest(NotesCase):
    LIKE = ("word", "else", "go", "turn", "up", "down", "ink", "mark", "back", "again", "if", "do", "count", "n")

    def test_names_like_words_of_the_language(self):
        for name in self.LIKE:
            self.assert_written(
                (((name, 2, (("go", (1, "n1", 0)),)),), (("do", name, (1, 2)), ("up",))),
                f"word {name} 2 ( go 1*n1+0 ) do {name} 1 2 up",
            )
            self.assert_written(
                (((name, 0, ()),), (("if", 1, (("do", name, ()),), (("do", name, ()),)),)),
                f"word {name} 0 ( ) if 1 ( do {name} ) else ( do {name} )",
            )

    def test_such_names_one_behind_another(self):
        self.assert_written(
            (
                (("word", 0, ()), ("else", 0, (("do", "word", ()),)), ("do", 1, (("do", "else", ()),))),
                (("do", "do", (1,)), ("do", "word", ()), ("do", "else", ())),
            ),
            "word word 0 ( ) word else 0 ( do word ) word do 1 ( do else ) do do 1 do word do else",
        )

    def test_names_of_one_and_of_eight_letters(self):
        self.assert_written(((("a", 0, ()), ("abcdefgh", 0, ())), ()), "word a 0 ( ) word abcdefgh 0 ( )")

    def test_six_words(self):
        names = "abcdef"
        self.assert_written(
            (tuple((name, 0, ()) for name in names), ()),
            " ".join(f"word {name} 0 ( )" for name in names),
        )


class GreatTest(NotesCase):
    def test_four_thousand_statements(self):
        self.assert_body(" ".join(["up"] * 4000), *[("up",)] * 4000)
        program = read(" ".join(["up"] * 3333))
        self.assertEqual(size_of(program), 3333)

    def test_long_amounts(self):
        amount = (-MOST, "count", -MOST)
        body = (("again", MOST, (("go", amount),) * 360),)
        text = "again 1000000 ( " + " ".join(["go -1000000*count+-1000000"] * 360) + " )"
        self.assertLess(len(text), 10000)
        self.assert_written((NO_WORDS, body), text)


if __name__ == "__main__":
    unittest.main()
