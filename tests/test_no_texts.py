"""Point 12: texts that are not just as a program is written."""

import random
import unittest

from tests.makings import programs
from tests.samples import SAMPLE
from turtlehouse.errors import HouseError, NoText
from turtlehouse.notes import read, shown
from turtlehouse.programs import check

SIGNS = "".join(chr(number) for number in range(32, 127) if number != 37)


class NoTextCase(unittest.TestCase):
    def assert_no_text(self, *texts):
        for text in texts:
            with self.subTest(text=text[:200]):
                with self.assertRaises(HouseError) as caught:
                    read(text)
                self.assertIs(type(caught.exception), NoText)

    def assert_text_or_no_text(self, text):
        """Either it is refused, or it is just what is written of what was read."""
        with self.subTest(text=text[:200]):
            try:
                program = read(text)
            except HouseError as error:
                self.assertIs(type(error), NoText)
                return False
            self.assertIs(check(program), True)
            self.assertEqual(shown(program), text)
            return True


class BlanksTest(NoTextCase):
    def test_blanks_alone(self):
        self.assert_no_text(" ", "  ", "   ")

    def test_a_blank_too_many_anywhere(self):
        text = shown(SAMPLE)
        for at in range(len(text) + 1):
            self.assert_no_text(text[:at] + " " + text[at:])

    def test_a_blank_too_few_anywhere(self):
        text = shown(SAMPLE)
        for at, sign in enumerate(text):
            if sign == " ":
                self.assert_no_text(text[:at] + text[at + 1:])

    def test_other_signs_for_a_blank(self):
        self.assert_no_text("go\t1", "go\n1", "go 1\n", "\ngo 1", "go\u00a01", "go_1", "go,1", "go-1", "go1")


class PartsTest(NoTextCase):
    def test_a_word_of_the_text_too_few(self):
        parts = shown(SAMPLE).split(" ")
        for at, part in enumerate(parts):
            # Without one of these, or with one more, it is another program.
            if part not in ("up", "down"):
                self.assert_no_text(" ".join(parts[:at] + parts[at + 1:]))

    def test_a_word_of_the_text_doubled(self):
        parts = shown(SAMPLE).split(" ")
        for at, part in enumerate(parts):
            if part not in ("up", "down"):
                self.assert_no_text(" ".join(parts[:at] + [part] + parts[at:]))

    def test_words_of_the_text_exchanged(self):
        parts = "word side 1 ( go 1*n0+-2 turn 1 ) again 8 ( do side 2*count+5 )".split(" ")
        for at in range(len(parts)):
            for other in range(at):
                changed = list(parts)
                changed[at], changed[other] = parts[other], parts[at]
                if changed != parts and " ".join(changed) not in (
                    "word side 1 ( turn 1*n0+-2 go 1 ) again 8 ( do side 2*count+5 )",
                    "word side 1 ( go 1 turn 1*n0+-2 ) again 8 ( do side 2*count+5 )",
                    "word side 1 ( go 1*n0+-2 turn 8 ) again 1 ( do side 2*count+5 )",
                ):
                    self.assert_no_text(" ".join(changed))

    def test_every_beginning_of_a_text(self):
        text = "word side 1 ( go 1*n0+-2 turn 1 ) again 8 ( do side 2*count+5 )"
        whole = [text[:at] for at in range(len(text) + 1) if self.assert_text_or_no_text(text[:at])]
        self.assertEqual(whole, ["", "word side 1 ( go 1*n0+-2 turn 1 )", text])

    def test_an_own_body_ahead_of_a_word(self):
        self.assert_no_text("up word side 0 ( )", "go 1 word side 0 ( ) do side")

    def test_a_word_within_a_body(self):
        self.assert_no_text("word a 0 ( word b 0 ( ) )", "again 1 ( word b 0 ( ) )")

    def test_no_statements(self):
        self.assert_no_text("GO 1", "Go 1", "left 1", "5", "*", "else", "word", "(", ")", "-", "1*n0+0", "n0", "count")

    def test_a_statement_without_what_follows(self):
        self.assert_no_text(
            "go", "turn", "ink", "mark", "back", "again", "again 1", "if", "if 1", "do",
            "go up", "turn up", "ink down", "mark up", "back up", "again up ( )", "again ( )", "if ( ) else ( )",
        )

    def test_a_statement_with_more(self):
        self.assert_no_text(
            "go 1 1", "turn 1 1", "up 1", "down 1", "ink 1 1", "mark 1 1", "back 1 1",
            "again 1 1 ( )", "again 1 ( ) ( )", "if 1 1 ( ) else ( )", "if 1 ( ) else ( ) else ( )",
        )

    def test_a_word_without_its_parts(self):
        self.assert_no_text(
            "word a", "word a 0", "word a 0 (", "word a ( )", "word 0 ( )", "word a 0 )", "word a 0 0 ( )",
            "word a b 0 ( )", "a 0 ( )", "word a 0", "word a 0 up",
        )


class BracketsTest(NoTextCase):
    def test_a_bracket_too_few(self):
        self.assert_no_text(
            "again 1 (", "again 1 )", "again 1", "again 1 ( up", "again 1 up )", "again 1 ( again 1 ( )",
            "if 1 ( else ( )", "if 1 ) else ( )", "if 1 ( ) else (", "if 1 ( ) else )", "word a 0 ( up",
        )

    def test_a_bracket_too_many(self):
        self.assert_no_text(
            ")", "(", "( )", "up )", "( up )", "again 1 ( ) )", "again 1 ( ( ) )", "again 1 ( ( )",
            "if 1 ( ) ) else ( )", "if 1 ( ) else ( ) )", "word a 0 ( ) )", "word a 0 ( ( ) )",
            "go ( 1 )", "up ( )",
        )

    def test_brackets_of_other_kinds(self):
        self.assert_no_text("again 1 [ ]", "again 1 { }", "again 1 ()", "again 1 (up)", "again 1 ( up)", "again 1(up )")

    def test_an_else_that_is_missing(self):
        self.assert_no_text("if 1 ( ) ( )", "if 1 ( )", "if 1 ( ) else", "if 1 else ( )", "if 1 ( up ) ( down )")

    def test_an_else_where_none_may_stand(self):
        self.assert_no_text(
            "else", "else ( )", "again 1 ( ) else ( )", "up else down", "if 1 ( ) else else ( )",
            "if 1 ( else ) else ( )", "if else 1 ( ) else ( )", "word a 0 ( ) else ( )",
            "if 1 ( ) else ( else )", "if 1 ( ) Else ( )",
        )


class AmountsTest(NoTextCase):
    # Each of these stands where an int may.
    NO_INTS = (
        "00", "01", "-01", "0001", "-0", "-00", "+1", "+0", "--1", "-", "+", "1-", "- 1", "1.0", "1e3", "1_0", "0x1",
        "", "a", "n0", "count", "one", "1,000", "(1)", "True", "None", "\u0661", "\u00b2", "\u00bd", "1\u0661",
        "1000001", "-1000001", "9999999", "10000000", "-10000000", "0000001", "0" * 9, "1" * 4301, "-" + "9" * 9000,
        "1\n", "\n1", "1\t", "\u22121",
    )

    def test_ints(self):
        for part in self.NO_INTS:
            self.assert_no_text(
                f"go {part}", f"turn {part}", f"ink {part}", f"again {part} ( )", f"if {part} ( ) else ( )",
                f"mark {part}", f"back {part}", f"word a {part} ( )", f"word a 1 ( ) do a {part}",
            )

    def test_times_and_more(self):
        for part in self.NO_INTS:
            self.assert_no_text(f"again 2 ( go {part}*count+1 )", f"again 2 ( go 1*count+{part} )")
        self.assertTrue(self.assert_text_or_no_text("again 2 ( go 1000000*count+-1000000 )"))

    def test_amounts_written_otherwise(self):
        for part in (
            "1*count", "count+1", "count", "1*count-1", "1*count+", "*count+1", "1count+1", "1*count1", "1+count*1",
            "count*1+1", "1*count+1+1", "1*1*count+1", "1**count+1", "1*count++1", "1*count+1*", "*", "+", "*+",
            "1*+1", "1*1+1", "1 * count + 1", "1* count+1", "1*count +1", "1*Count+1", "1*counts+1", "1*n+1",
            "1*n00+1", "1*-count+1", "(1*count+1)", "1*count+1)", "1/count+1", "1x+1",
        ):
            self.assert_no_text(f"again 2 ( go {part} )")

    def test_amounts_where_an_int_is_to_stand(self):
        self.assert_no_text(
            "again 1 ( mark 1*count+0 )", "again 1 ( back 1*count+0 )", "again 1 ( mark 0*count+5 )",
            "word a 1 ( mark 1*n0+0 )", "word a 0*n0+1 ( )",
        )


class NoProgramTest(NoTextCase):
    def test_a_source_where_there_is_none(self):
        for source in ("count", "n0", "n1", "n2", "n3"):
            self.assert_no_text(f"go 1*{source}+0", f"again 1*{source}+0 ( )", f"if 1*{source}+0 ( ) else ( )")
            self.assert_no_text(f"if 1 ( go 1*{source}+0 ) else ( )", f"if 1 ( ) else ( go 1*{source}+0 )")
        self.assert_no_text("again 1 ( go 1*n0+0 )", "again 1 ( ) go 1*count+0", "word a 4 ( go 1*count+0 )")
        self.assert_no_text("word a 0 ( go 1*count+0 ) again 1 ( do a )", "word a 4 ( ) go 1*n0+0")
        self.assert_no_text("word a 4 ( go 1*n4+0 )", "word a 4 ( ) do a 1 2 3 1*n0+0")
        for many in range(5):
            for source in range(5):
                text = f"word a {many} ( go 1*n{source}+0 )"
                self.assertEqual(self.assert_text_or_no_text(text), source < many)

    def test_a_mark_beyond_nine(self):
        for number in (-1, 10, 11, 100, 1000000):
            self.assert_no_text(f"mark {number}", f"back {number}")

    def test_a_word_further_on_or_not_there(self):
        self.assert_no_text(
            "do a", "word a 0 ( do a )", "word a 0 ( do b ) word b 0 ( )", "word a 0 ( ) do b",
            "word a 0 ( again 1 ( do a ) )", "do", "word a 0 ( ) do A", "do word", "word a 0 ( ) do",
        )
        self.assertTrue(self.assert_text_or_no_text("word a 0 ( ) word b 0 ( do a )"))

    def test_too_many_or_too_few_amounts(self):
        for many in range(5):
            for handed in range(7):
                text = " ".join([f"word a {many} ( ) do a"] + ["1"] * handed)
                self.assertEqual(self.assert_text_or_no_text(text), handed == many)

    def test_a_seventh_word(self):
        for many in range(9):
            text = " ".join([f"word {name} 0 ( )" for name in "abcdefghi"[:many]])
            self.assertEqual(self.assert_text_or_no_text(text), many <= 6)

    def test_two_words_of_one_name(self):
        self.assert_no_text(
            "word a 0 ( ) word a 0 ( )", "word a 0 ( ) word a 1 ( )", "word a 1 ( ) word b 0 ( ) word a 1 ( ) do a 1")

    def test_names_that_are_none(self):
        for name in (
            "abcdefghi", "abcdefghijklmnop", "A", "aB", "a1", "n0", "a_b", "a-b", "1", "-", "(", ")", "*", "a.", "\u00e4",
            "\u00df", "\u0430",
        ):
            self.assert_no_text(f"word {name} 0 ( )", f"word {name} 0 ( ) do {name}")
        self.assertTrue(self.assert_text_or_no_text("word abcdefgh 0 ( )"))

    def test_many_beyond_its_bounds(self):
        for many in (-2, -1, 5, 6, 10, 1000000):
            self.assert_no_text(f"word a {many} ( )", f"word a {many} ( ) do a", f"word a {many} ( ) do a 1 1 1 1 1")

    def test_seven_agains_and_ifs_one_within_another(self):
        for kinds in range(128):
            ahead = ["again 1 (" if kinds >> at & 1 else "if 1 (" for at in range(7)]
            behind = [")" if kinds >> at & 1 else ") else ( )" for at in range(6, -1, -1)]
            self.assert_no_text(" ".join(ahead + behind))
            self.assertTrue(self.assert_text_or_no_text(" ".join(ahead[1:] + behind[:-1])))
        self.assert_no_text("if 1 ( ) else ( " * 7 + ") " * 6 + ")")
        self.assert_no_text("word a 0 ( " + "again 1 ( " * 7 + ") " * 7 + ")")

    def test_thousands_one_within_another(self):
        for ahead in ("again 1 (", "if 1 (", "if 1 ( ) else (", "(", "word a 0 ("):
            many = 10000 // (len(ahead) + 3)
            self.assert_no_text(" ".join([ahead] * many), " ".join([ahead] * many + [")"] * many))
            self.assert_no_text(" ".join([ahead] * (10001 // (len(ahead) + 1))))

    def test_more_than_four_thousand_statements(self):
        self.assertTrue(self.assert_text_or_no_text(" ".join(["up"] * 4000)))
        self.assert_no_text(" ".join(["up"] * 4001))
        within = "word a 0 ( " + " ".join(["up"] * 2000) + " ) again 1 ( " + " ".join(["up"] * 1999) + " )"
        self.assertTrue(self.assert_text_or_no_text(within))
        self.assert_no_text(within + " up")


class LotsTest(NoTextCase):
    def test_texts_with_one_sign_changed(self):
        text = "word side 1 ( go 1*n0+-2 turn 1 ) again 8 ( do side 2*count+5 if 1 ( mark 9 ) else ( back 0 ) )"
        for at in range(len(text)):
            for sign in SIGNS:
                self.assert_text_or_no_text(text[:at] + sign + text[at + 1:])

    def test_texts_of_words_of_the_language(self):
        lot = random.Random(12)
        parts = ["go", "turn", "up", "down", "ink", "mark", "back", "again", "if", "do", "word", "else", "(", ")", "a",
                 "0", "1", "-2", "1*count+0", "1*n0+0"]
        taken = 0
        for _ in range(6000):
            taken += self.assert_text_or_no_text(" ".join(lot.choices(parts, k=lot.randint(1, 7))))
        self.assertGreater(taken, 50)

    def test_programs_with_parts_changed(self):
        lot = random.Random(13)
        for program in programs(150, seed=1):
            parts = shown(program).split(" ")
            for _ in range(10):
                changed = list(parts)
                at, other = lot.randrange(len(parts)), lot.randrange(len(parts))
                deed = lot.randrange(4)
                if deed == 0:
                    changed[at], changed[other] = parts[other], parts[at]
                elif deed == 1:
                    changed.insert(at, parts[other])
                elif deed == 2:
                    del changed[at]
                else:
                    changed[at] = parts[other]
                self.assert_text_or_no_text(" ".join(changed))

    def test_texts_of_any_signs(self):
        lot = random.Random(14)
        for _ in range(2000):
            self.assert_text_or_no_text("".join(lot.choices(SIGNS, k=lot.randint(1, 12))))
        for _ in range(20):
            self.assert_no_text("".join(lot.choices(SIGNS, k=10000)))
        for sign in SIGNS:
            self.assert_no_text(sign, sign * 10000, "go " + sign * 9997, "go 1*" + sign * 9000, "word " + sign * 9000)


if __name__ == "__main__":
    unittest.main()
