"""Points 7 to 10: whatever is no program is refused with NoProgram, and with nothing else."""

import copy
import decimal
import fractions
import unittest

from tests.samples import EACH_STATEMENT, GO, MOST, NO_WORDS, SAMPLE, nested, with_amount
from turtlehouse.errors import NoProgram
from turtlehouse.programs import check


class Pretender:
    """An object that answers as if it were whatever it is held against."""

    def __init__(self, things):
        self.things = things

    def __eq__(self, other):
        return True

    def __hash__(self):
        return hash(self.things[0])

    def __len__(self):
        return len(self.things)

    def __iter__(self):
        return iter(self.things)

    def __getitem__(self, at):
        return self.things[at]

    def __lt__(self, other):
        return True

    __le__ = __gt__ = __ge__ = __lt__

    def __index__(self):
        return 1


class Quarreller:
    """An object that fails in every answer that it can be asked for."""

    __hash__ = None

    def __eq__(self, other):
        raise RuntimeError("asked")

    __lt__ = __le__ = __gt__ = __ge__ = __len__ = __iter__ = __getitem__ = __bool__ = __eq__


def odd_things():
    """Things that may stand nowhere in a program."""
    return (
        True, False, None, "", "no such", "Go", "N0", b"", b"go", b"n0", [], [1], ["go", 1],
        {}, {"go": 1}, set(), {1}, frozenset(), object(), Pretender(("go", 1)), Pretender(((), ())),
        Quarreller(), int, len, range(2), 1j, fractions.Fraction(1), decimal.Decimal(1),
        bytearray(b"go"), iter(()), NotImplemented, ..., MOST + 1, -MOST - 1, 10 ** 400,
        (None,), ((),), (True,), (1, "n9", 1), ("go",), ("go", 1, 1),
    )


def spots_of(thing, spot=()):
    """The way to each thing within a thing of tuples, the whole first."""
    yield spot
    if isinstance(thing, tuple):
        for at, part in enumerate(thing):
            yield from spots_of(part, spot + (at,))


def thing_at(thing, spot):
    for at in spot:
        thing = thing[at]
    return thing


def put(thing, spot, other):
    """A thing of tuples with another one put in at a spot."""
    if not spot:
        return other
    at, rest = spot[0], spot[1:]
    return thing[:at] + (put(thing[at], rest, other),) + thing[at + 1:]


def is_row(thing):
    """Whether a thing in the sample is a tuple with any number of things: words or a body."""
    return isinstance(thing, tuple) and all(isinstance(part, tuple) for part in thing)


class NoProgramCase(unittest.TestCase):
    def assert_refused(self, thing):
        # A thing that is handed in may be too large, or too unwilling, to be shown.
        try:
            answer = check(thing)
        except NoProgram as refusal:
            self.assertEqual(refusal.__class__, NoProgram)
        else:
            self.fail("not refused, but answered " + repr(answer))

    def assert_own_body_refused(self, *statements):
        with self.subTest(statements=statements):
            self.assert_refused((NO_WORDS, statements))

    def assert_word_body_refused(self, many, *statements):
        with self.subTest(many=many, statements=statements):
            self.assert_refused(((("side", many, statements),), ()))

    def assert_words_refused(self, *words):
        with self.subTest(words=words):
            self.assert_refused((words, ()))


class OddThingsTest(NoProgramCase):
    def test_odd_things_at_each_spot(self):
        for spot in spots_of(SAMPLE):
            for at, odd in enumerate(odd_things()):
                with self.subTest(spot=spot, odd=at):
                    self.assert_refused(put(SAMPLE, spot, odd))

    def test_lists_at_each_spot_of_a_tuple(self):
        for spot in spots_of(SAMPLE):
            there = thing_at(SAMPLE, spot)
            if isinstance(there, tuple):
                with self.subTest(spot=spot):
                    self.assert_refused(put(SAMPLE, spot, list(there)))

    def test_ints_at_each_spot_of_another_kind(self):
        for spot in spots_of(SAMPLE):
            there = thing_at(SAMPLE, spot)
            is_amount = isinstance(there, tuple) and len(there) == 3 and isinstance(there[0], int)
            if not isinstance(there, int) and not is_amount:
                with self.subTest(spot=spot):
                    self.assert_refused(put(SAMPLE, spot, 1))

    def test_texts_and_tuples_at_each_spot_of_an_int(self):
        for spot in spots_of(SAMPLE):
            if isinstance(thing_at(SAMPLE, spot), int):
                for odd in ("1", "n0", "count", b"1", (), (1,), (1, 2, 3), ("go", 1)):
                    with self.subTest(spot=spot, odd=odd):
                        self.assert_refused(put(SAMPLE, spot, odd))

    def test_true_and_false_at_each_spot_of_an_int(self):
        for spot in spots_of(SAMPLE):
            if isinstance(thing_at(SAMPLE, spot), int):
                for odd in (True, False):
                    self.assert_refused(put(SAMPLE, spot, odd))

    def test_a_thing_too_few(self):
        for spot in spots_of(SAMPLE):
            there = thing_at(SAMPLE, spot)
            if isinstance(there, tuple) and there and (not is_row(there) or spot == ()):
                for less in (there[:-1], there[1:]):
                    with self.subTest(spot=spot, less=less):
                        self.assert_refused(put(SAMPLE, spot, less))

    def test_a_thing_too_many(self):
        for spot in spots_of(SAMPLE):
            there = thing_at(SAMPLE, spot)
            if isinstance(there, tuple):
                for more in (0, None, "", ()):
                    for longer in (there + (more,), (more,) + there):
                        with self.subTest(spot=spot, longer=longer):
                            self.assert_refused(put(SAMPLE, spot, longer))

    def test_what_is_handed_in_stays_as_it_is(self):
        words = [["side", 1, [["go", [1, "n0", 2]]]]]
        thing = [words, [["do", "side", [1]]]]
        kept = copy.deepcopy(thing)
        self.assert_refused(thing)
        self.assert_refused((words, ()))
        self.assert_refused(((), thing[1]))
        self.assertEqual(thing, kept)


class NoWordsTest(NoProgramCase):
    def test_no_tuple_of_words_and_body(self):
        things = (
            (), ((),), ((), (), ()), [(), ()], [[], []], ((), []), ([], ()), ({}, ()), ((), None), "()",
        )
        for thing in things:
            with self.subTest(thing=thing):
                self.assert_refused(thing)

    def test_more_than_six_words(self):
        for many in (7, 8, 26):
            words = tuple(("abcdefghijklmnopqrstuvwxyz"[at], 0, ()) for at in range(many))
            self.assert_words_refused(*words)

    def test_a_word_is_a_tuple_of_three(self):
        words = (
            (), ("side",), ("side", 0), ("side", 0, (), ()), ["side", 0, ()], (0, "side", ()), "abc", None, 3,
        )
        for word in words:
            self.assert_words_refused(word)

    def test_no_names(self):
        names = (
            "", "abcdefghi", "a" * 100, "A", "Side", "sidE", "side1", "n0", "0", "a b", " a", "a ", "a\n", "\n",
            "a_b", "_", "a-b", "*", "(", "`", "{", "a\x00", "\u00e9", "\u00df", "\u0430", "\uff41", "\u00aa",
            "\U0001d41a", "\ud800", "aa\u0301",
        )
        for name in names:
            self.assert_words_refused((name, 0, ()))

    def test_names_of_another_kind(self):
        for name in (b"side", 0, None, ("s",), ["s", "i"], ("side",), True):
            self.assert_words_refused((name, 0, ()))

    def test_names_that_are_alike(self):
        self.assert_words_refused(("side", 0, ()), ("side", 0, ()))
        self.assert_words_refused(("side", 0, ()), ("side", 1, (GO,)))
        self.assert_words_refused(("a", 0, ()), ("b", 0, ()), ("c", 0, ()), ("a", 0, ()))

    def test_a_word_that_takes_too_many_numbers_or_too_few(self):
        for many in (-1, 5, 6, 10 ** 30, True, False, None, "0", (0,)):
            self.assert_words_refused(("side", many, ()))

    def test_no_body_of_a_word(self):
        for body in (None, [], [GO], GO, "", {}, 0, (GO, None)):
            self.assert_words_refused(("side", 0, body))


class NoStatementsTest(NoProgramCase):
    def test_no_body(self):
        for body in (None, [], [GO], GO, "", "go", 0, {}, {GO}):
            with self.subTest(body=body):
                self.assert_refused(((), body))

    def test_no_statement(self):
        statements = (
            (), (1,), ("",), ("fly",), ("GO", 1), ("go ", 1), (b"go", 1), (None,), ("go", 1, 2), "up", None, 1,
        )
        for statement in statements:
            self.assert_own_body_refused(statement)

    def test_first_things_of_other_places(self):
        for first in ("word", "else", "count", "n0", "amount", "body"):
            for rest in ((), (1,), (1, ()), (1, (), ()), ("side", ())):
                self.assert_own_body_refused((first,) + rest)

    def test_each_statement_with_too_few_or_too_many(self):
        words = (("side", 0, ()),)
        for statement in EACH_STATEMENT:
            self.assertIs(check((words, (statement,))), True)
            for other in (statement[:-1], statement + (1,), statement + ((),), list(statement)):
                with self.subTest(other=other):
                    self.assert_refused((words, (other,)))

    def test_no_mark(self):
        for first in ("mark", "back"):
            for number in (-1, 10, 11, 10 ** 30, True, False, None, "1", (1,), (1, "count", 0)):
                self.assert_own_body_refused((first, number))
                self.assert_own_body_refused(("again", 2, ((first, number),)))

    def test_no_body_of_an_again_or_an_if(self):
        for body in (None, [], [GO], GO, "", 0, {}, (GO, None), (("fly",),)):
            self.assert_own_body_refused(("again", 1, body))
            self.assert_own_body_refused(("if", 1, body, ()))
            self.assert_own_body_refused(("if", 1, (), body))

    def test_an_amount_and_a_body_in_each_others_place(self):
        self.assert_own_body_refused(("again", (), 1))
        self.assert_own_body_refused(("if", (), 1, ()))
        self.assert_own_body_refused(("if", (), (), 1))

    def test_do_of_a_word_that_is_not_there(self):
        self.assert_own_body_refused(("do", "side", ()))
        for name in ("sid", "sides", "Side", "", "other", b"side", None, 0, ("side",), ["side"]):
            with self.subTest(name=name):
                self.assert_refused(((("side", 0, ()),), (("do", name, ()),)))

    def test_do_of_a_word_that_does_not_stand_ahead(self):
        do_a, do_b = ("do", "a", ()), ("do", "b", ())
        self.assert_words_refused(("a", 0, (do_a,)))
        self.assert_words_refused(("a", 0, (do_b,)), ("b", 0, ()))
        self.assert_words_refused(("a", 0, (do_b,)), ("b", 0, (do_a,)))
        self.assert_words_refused(("a", 0, ()), ("b", 0, (do_a, do_b)))
        self.assert_words_refused(("a", 0, (("again", 0, (do_a,)),)))
        self.assert_words_refused(("a", 0, (("if", 0, (), (do_b,)),)), ("b", 0, ()))

    def test_do_with_other_amounts_than_the_word_takes(self):
        for many in range(5):
            for handed in range(7):
                if handed != many:
                    with self.subTest(many=many, handed=handed):
                        do = ("do", "side", (1,) * handed)
                        self.assert_refused(((("side", many, ()),), (do,)))

    def test_do_with_no_tuple_of_amounts(self):
        for amounts in ([1], 1, None, "1", b"1", {1}, {1: 1}, range(1)):
            with self.subTest(amounts=amounts):
                self.assert_refused(((("side", 1, ()),), (("do", "side", amounts),)))

    def test_do_with_no_amounts(self):
        for amount in (None, True, "1", MOST + 1, (1, "count", 0), (1, "n0", 0), [1, "count", 0], ()):
            with self.subTest(amount=amount):
                words = (("side", 2, ()),)
                self.assert_refused((words, (("do", "side", (amount, 1)),)))
                self.assert_refused((words, (("do", "side", (1, amount)),)))


class NoAmountsTest(NoProgramCase):
    def test_ints_beyond_the_bounds(self):
        for amount in (MOST + 1, -MOST - 1, 10 ** 12, -10 ** 12, 10 ** 400):
            for statement in with_amount(amount):
                self.assert_own_body_refused(statement)

    def test_times_and_more_beyond_the_bounds(self):
        for odd in (MOST + 1, -MOST - 1, 10 ** 30, True, False, None, "1", (1,)):
            for amount in ((odd, "n0", 1), (1, "n0", odd)):
                for statement in with_amount(amount):
                    self.assert_word_body_refused(1, statement)

    def test_things_of_another_kind(self):
        amounts = (
            True, False, None, "1", "n0", b"1", [], [1, "n0", 1], {}, (), (1,), (1, "n0"), (1, "n0", 1, 1),
        )
        for amount in amounts:
            for statement in with_amount(amount):
                self.assert_word_body_refused(1, statement)
                self.assert_word_body_refused(1, ("again", 1, (statement,)))

    def test_no_source(self):
        sources = (
            "", "n", "n4", "n-1", "N0", "n0 ", "n00", "Count", "counts", "coun", b"n0", None, 0, ("n0",), ["n0"],
        )
        for source in sources:
            for statement in with_amount((1, source, 1)):
                self.assert_word_body_refused(4, ("again", 1, (statement,)))

    def test_source_at_another_place(self):
        for amount in (("n0", 1, 1), (1, 1, "n0"), ("count", 1, 1), (1, 1, "count")):
            for statement in with_amount(amount):
                self.assert_word_body_refused(4, ("again", 1, (statement,)))

    def test_count_without_an_again(self):
        for statement in with_amount((1, "count", 0)):
            self.assert_own_body_refused(statement)
            self.assert_word_body_refused(4, statement)
            self.assert_own_body_refused(("if", 1, (statement,), ()))
            self.assert_own_body_refused(("if", 1, (), (statement,)))

    def test_count_in_the_amount_of_its_own_again(self):
        self.assert_own_body_refused(("again", (1, "count", 0), (("go", (1, "count", 0)),)))

    def test_count_beside_an_again(self):
        again = ("again", 3, (("go", (1, "count", 0)),))
        for statement in with_amount((1, "count", 0)):
            self.assert_own_body_refused(again, statement)
            self.assert_own_body_refused(statement, again)
            self.assert_own_body_refused(("if", 1, (again,), (statement,)))
            self.assert_own_body_refused(("if", 1, (again, statement), ()))

    def test_count_in_a_word_that_is_done_in_an_again(self):
        words = (("side", 0, (("go", (1, "count", 0)),)),)
        self.assert_refused((words, (("again", 3, (("do", "side", ()),)),)))

    def test_count_behind_a_word_with_an_again(self):
        words = (("side", 0, (("again", 3, (("go", (1, "count", 0)),)),)),)
        self.assertIs(check((words, ())), True)
        self.assert_refused((words, (("go", (1, "count", 0)),)))
        self.assert_refused((words + (("other", 0, (("go", (1, "count", 0)),)),), ()))

    def test_numbers_that_a_word_does_not_take(self):
        for many in range(5):
            for at in range(many, 6):
                for statement in with_amount((1, "n" + str(at), 0)):
                    self.assert_word_body_refused(many, statement)
                    self.assert_word_body_refused(many, ("again", 1, (statement,)))

    def test_numbers_in_the_own_body(self):
        words = (("side", 4, (("go", (1, "n0", 0)), ("go", (1, "n3", 0)))),)
        self.assertIs(check((words, ())), True)
        for source in ("n0", "n1", "n2", "n3"):
            for statement in with_amount((1, source, 0)):
                self.assert_own_body_refused(statement)
                self.assert_refused((words, (statement,)))
                self.assert_refused((words, (("again", 1, (statement,)),)))

    def test_numbers_of_another_word(self):
        words = (("many", 4, ()), ("one", 1, (("go", (1, "n1", 0)),)), ("more", 4, ()))
        self.assert_refused((words, ()))


class TooLargeTest(NoProgramCase):
    def test_4001_statements(self):
        self.assert_refused(((), (GO,) * 4001))
        self.assert_refused(((), (("again", 1, (GO,) * 4000),)))
        self.assert_refused(((), (("if", 1, (GO,) * 2000, (GO,) * 2000),)))
        self.assert_refused(((("a", 0, (GO,) * 4001),), ()))
        self.assert_refused(((("a", 0, (GO,) * 4000),), (GO,)))
        self.assert_refused(((("a", 0, (GO,) * 4000), ("b", 0, (GO,))), ()))
        self.assert_refused(((("a", 0, (GO,) * 1000), ("b", 0, (GO,) * 1000)), (GO,) * 2001))
        self.assert_refused(((), nested(["again"] * 6, (GO,) * 3995)))

    def test_4001_of_each_statement(self):
        for statement in EACH_STATEMENT:
            with self.subTest(statement=statement):
                self.assert_refused(((("side", 0, ()),), (statement,) * 4001))

    def test_far_more_statements_than_can_be_walked(self):
        body = (GO,) * 4000
        for _ in range(6):
            body = (("again", 1, body),) * 4000
        self.assert_refused(((), body))
        self.assert_refused(((("a", 0, body),), ()))
        body = ()
        for _ in range(6):
            body = (("if", 1, body, body),) * 3000
        self.assert_refused(((), body))

    def test_seven_one_within_another(self):
        for kinds in (["again"] * 7, ["if"] * 7, ["else"] * 7, ["again", "if", "else"] * 2 + ["again"]):
            for core in ((), (GO,)):
                body = nested(kinds, core)
                with self.subTest(kinds=kinds, core=core):
                    self.assert_refused(((), body))
                    self.assert_refused(((), (GO,) + body))
                    self.assert_refused(((("a", 0, body),), ()))

    def test_seven_behind_six(self):
        self.assert_refused(((), nested(["again"] * 6) + nested(["again"] * 7)))
        self.assert_refused(((), (("if", 1, (), nested(["again"] * 6)),)))

    def test_very_deep_things(self):
        for kind in ("again", "if", "else"):
            self.assert_refused(((), nested([kind] * 50000)))
        thing = ()
        for _ in range(50000):
            thing = (thing,)
        for spot in spots_of(SAMPLE):
            self.assert_refused(put(SAMPLE, spot, thing))

    def test_very_long_things(self):
        self.assert_refused((("a" * 10 ** 6, 0, ()), ()))
        self.assert_refused(((("a" * 10 ** 6, 0, ()),), ()))
        self.assert_refused(((("a", 0, ()),) * 10 ** 6, ()))
        self.assert_refused(((("a", 1, ()),), (("do", "a", (1,) * 10 ** 6),)))
        self.assert_refused(((), (GO,) * 10 ** 6))
        self.assert_refused(((), (("go",) + (1,) * 10 ** 6,)))

    def test_a_thing_that_holds_itself(self):
        thing = [(), ()]
        thing[1] = thing
        self.assert_refused(thing)
        self.assert_refused(((), (("again", 1, thing),)))


if __name__ == "__main__":
    unittest.main()
