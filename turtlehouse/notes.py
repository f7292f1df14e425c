"""Programs written as texts, and read from them."""

from turtlehouse.errors import NoProgram, NoText
from turtlehouse.programs import MOST_DEPTH, SHAPES, check

# No int that may stand in a program has more.
MOST_FIGURES = 7


def amount_text(amount):
    """An amount as it is written."""
    if isinstance(amount, tuple):
        factor, source, more = amount
        return f"{factor}*{source}+{more}"
    return str(amount)


def statement_parts(statement):
    """The words of a text that write a statement."""
    first = statement[0]
    if first == "again":
        return [first, amount_text(statement[1])] + bracketed(statement[2])
    if first == "if":
        head = [first, amount_text(statement[1])]
        return head + bracketed(statement[2]) + ["else"] + bracketed(statement[3])
    if first == "do":
        return [first, statement[1]] + [amount_text(amount) for amount in statement[2]]
    return [first] + [amount_text(amount) for amount in statement[1:]]


def body_parts(body):
    """The words of a text that write a body."""
    parts = []
    for statement in body:
        parts.extend(statement_parts(statement))
    return parts


def bracketed(body):
    """The words of a text that write a body between brackets."""
    return ["("] + body_parts(body) + [")"]


def shown(program):
    """The text that writes a program."""
    words, body = program
    parts = []
    for name, many, inner in words:
        parts.extend(["word", name, str(many)] + bracketed(inner))
    return " ".join(parts + body_parts(body))


def need(holds, why):
    """Refuse the text where something does not hold of it."""
    if not holds:
        raise NoText(why)


def int_of(part):
    """The int that a word of a text writes."""
    figures = part[1:] if part.startswith("-") else part
    # Python itself would read blanks, a plus ahead, figures of other scripts and noughts
    # ahead, and refuses by an error of its own what is very long.
    need(1 <= len(figures) <= MOST_FIGURES, "an int has some figures, and not too many")
    need(all(["0" <= figure <= "9" for figure in figures]), "an int is written in figures")
    value = int(part)
    need(str(value) == part, "an int has no noughts ahead, and 0 no sign")
    return value


def amount_of(part):
    """The amount that a word of a text writes, whatever its source."""
    if "*" not in part:
        return int_of(part)
    factor, star, rest = part.partition("*")
    source, sign, more = rest.partition("+")
    return (int_of(factor), source, int_of(more))


class Reader:
    """The words of a text, taken one behind another."""

    def __init__(self, text):
        """known tells of each word of the program that was read how many numbers it takes."""
        # Split, the text without signs would be one word without signs.
        self.parts = text.split(" ") if text != "" else []
        self.at = 0
        self.known = {}

    def next_is(self, part):
        """Whether that is the next word of the text."""
        return self.at < len(self.parts) and self.parts[self.at] == part

    def take(self):
        """The next word of the text, which is behind us then."""
        need(self.at < len(self.parts), "the text ends too early")
        self.at += 1
        return self.parts[self.at - 1]

    def take_just(self, part):
        """Refuse the text where that is not its next word, and leave it behind."""
        need(self.take() == part, "another word is to stand there")

    def take_statements(self, depth):
        """The statements up to a closing bracket, or the end of the text."""
        statements = []
        while self.at < len(self.parts) and not self.next_is(")"):
            statements.append(self.take_statement(depth))
        return tuple(statements)

    def take_body(self, depth):
        """A body between brackets."""
        # The text may open far more brackets than calls can lie within one another.
        need(depth <= MOST_DEPTH, "too many agains and ifs stand one within another")
        self.take_just("(")
        body = self.take_statements(depth)
        self.take_just(")")
        return body

    def take_statement(self, depth):
        """A statement that stands within so many agains and ifs."""
        first = self.take()
        need(first in SHAPES, "there is no such statement")
        if first == "do":
            return self.take_do()
        if first == "again":
            amount = amount_of(self.take())
            return (first, amount, self.take_body(depth + 1))
        if first == "if":
            return self.take_if(depth)
        if first == "mark" or first == "back":
            return (first, int_of(self.take()))
        if first == "up" or first == "down":
            return (first,)
        return (first, amount_of(self.take()))

    def take_if(self, depth):
        """What follows if, as a statement."""
        amount = amount_of(self.take())
        body = self.take_body(depth + 1)
        self.take_just("else")
        return ("if", amount, body, self.take_body(depth + 1))

    def take_do(self):
        """What follows do, as a statement."""
        name = self.take()
        need(name in self.known, "no such word stands ahead")
        amounts = [amount_of(self.take()) for number in range(self.known[name])]
        return ("do", name, tuple(amounts))

    def take_word(self):
        """A word of the program."""
        self.take_just("word")
        name = self.take()
        many = int_of(self.take())
        body = self.take_body(0)
        self.known[name] = many
        return (name, many, body)

    def take_program(self):
        """All that the text writes."""
        words = []
        while self.next_is("word"):
            words.append(self.take_word())
        body = self.take_statements(0)
        need(self.at == len(self.parts), "a bracket closes what was not opened")
        return (tuple(words), body)


def read(text):
    """The program that a text writes; a text that is not just as one is written is refused."""
    program = Reader(text).take_program()
    try:
        check(program)
    except NoProgram:
        raise NoText("what is written is no program") from None
    return program
