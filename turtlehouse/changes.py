"""Programs that draw the same otherwise: mirrored, larger or turned."""

from turtlehouse.errors import TooGreat, TooLong
from turtlehouse.programs import MOST_AMOUNT, MOST_SIZE, size_of


def int_times(value, factor):
    """An int of an amount, taken so many times."""
    product = value * factor
    if not -MOST_AMOUNT <= product <= MOST_AMOUNT:
        raise TooGreat("an amount would be more than is allowed")
    return product


def amount_times(amount, factor):
    """An amount that comes to so many times as much."""
    if isinstance(amount, tuple):
        times, source, more = amount
        return (int_times(times, factor), source, int_times(more, factor))
    return int_times(amount, factor)


def statement_times(statement, first, factor):
    """A statement in which the amounts of all statements with that first thing are taken so many times."""
    if statement[0] == first:
        return (first, amount_times(statement[1], factor))
    if statement[0] == "again":
        return ("again", statement[1], body_times(statement[2], first, factor))
    if statement[0] == "if":
        bodies = [body_times(body, first, factor) for body in statement[2:]]
        return ("if", statement[1], bodies[0], bodies[1])
    return statement


def body_times(body, first, factor):
    """A body in which the amounts of all statements with that first thing are taken so many times."""
    return tuple([statement_times(statement, first, factor) for statement in body])


def program_times(program, first, factor):
    """A program in which the amounts of all statements with that first thing are taken so many times."""
    words, body = program
    told = [(name, many, body_times(inner, first, factor)) for name, many, inner in words]
    return (tuple(told), body_times(body, first, factor))


def mirrored(program):
    """The program that draws the mirrored drawing."""
    return program_times(program, "turn", -1)


def larger(program, factor):
    """The program that draws the drawing so many times as large."""
    return program_times(program, "go", factor)


def turned(program, eighths):
    """The program that draws the drawing turned by so many eighths to the left."""
    if size_of(program) >= MOST_SIZE:
        raise TooLong("there is no room for one more statement")
    words, body = program
    return (words, (("turn", eighths),) + body)
