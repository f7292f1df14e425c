"""What is a program, and how large it is."""

from turtlehouse.errors import NoProgram

MOST_WORDS = 6
MOST_LETTERS = 8
MOST_AMOUNT = 1000000
MOST_MARK = 9
MOST_SIZE = 4000
MOST_DEPTH = 6

# The numbers that are handed to a word, by its own names for them.
NUMBERS = ("n0", "n1", "n2", "n3")

# What follows the first thing of each statement.
SHAPES = {
    "go": ("amount",),
    "turn": ("amount",),
    "up": (),
    "down": (),
    "ink": ("amount",),
    "mark": ("number",),
    "back": ("number",),
    "again": ("amount", "body"),
    "if": ("amount", "body", "body"),
    "do": ("name", "amounts"),
}


class Setting:
    """What may be named at some spot of a program, and how deep that lies."""

    def __init__(self, known, many, counted, depth):
        """known tells of each word that may be done how many numbers it takes."""
        self.known = known
        self.many = many
        self.counted = counted
        self.depth = depth

    def within(self, first):
        """The setting of a body of the statement with that first thing."""
        counted = self.counted or first == "again"
        return Setting(self.known, self.many, counted, self.depth + 1)

    def has_source(self, source):
        """Whether an amount may be reckoned from that source here."""
        if source == "count":
            return self.counted
        return source in NUMBERS[: self.many]


def need(holds, why):
    """Refuse the thing where something does not hold of it."""
    if not holds:
        raise NoProgram(why)


def is_tuple_of(thing, many):
    """Whether a thing is a tuple of so many things."""
    return isinstance(thing, tuple) and len(thing) == many


def is_int_within(thing, low, high):
    """Whether a thing is an int between two bounds, both of them allowed."""
    # Python counts True and False among the ints; the house does not.
    if not isinstance(thing, int) or isinstance(thing, bool):
        return False
    return low <= thing <= high


def is_amount_int(thing):
    """Whether a thing is an int such as may stand in an amount."""
    return is_int_within(thing, -MOST_AMOUNT, MOST_AMOUNT)


def is_name(thing):
    """Whether a thing is a text such as a word may be called by."""
    if not isinstance(thing, str) or not 1 <= len(thing) <= MOST_LETTERS:
        return False
    return all(["a" <= letter <= "z" for letter in thing])


def check_amount(thing, setting):
    """Refuse what is no amount in that setting."""
    if not isinstance(thing, tuple):
        need(is_amount_int(thing), "an amount is an int within its bounds, or a tuple")
        return
    need(len(thing) == 3, "an amount that is a tuple has three things")
    times, source, more = thing
    need(is_amount_int(times) and is_amount_int(more), "times and more are ints within their bounds")
    # What is not known to be a text is compared with nothing: it may answer as it likes.
    need(isinstance(source, str) and setting.has_source(source), "there is no such source here")


def check_do(name, amounts, setting):
    """Refuse what may not follow do in that setting."""
    need(isinstance(name, str) and name in setting.known, "no such word stands ahead")
    need(is_tuple_of(amounts, setting.known[name]), "amounts are a tuple, as many as the word takes")
    for amount in amounts:
        check_amount(amount, setting)


def check_statement(statement, setting):
    """The size of all bodies in a statement; what is no statement is refused."""
    need(isinstance(statement, tuple) and len(statement) > 0, "a statement is a tuple of some things")
    first = statement[0]
    need(isinstance(first, str) and first in SHAPES, "there is no such statement")
    shape = SHAPES[first]
    need(len(statement) == 1 + len(shape), "a statement has just the things that follow its first")
    if first == "do":
        check_do(statement[1], statement[2], setting)
        return 0
    size = 0
    for kind, part in zip(shape, statement[1:]):
        if kind == "amount":
            check_amount(part, setting)
        elif kind == "number":
            need(is_int_within(part, 0, MOST_MARK), "the number of a mark is an int within its bounds")
        else:
            size += check_body(part, setting.within(first))
    return size


def check_body(body, setting):
    """The size of a body; what is no body in that setting is refused."""
    need(isinstance(body, tuple), "a body is a tuple")
    need(setting.depth <= MOST_DEPTH, "too many agains and ifs stand one within another")
    size = 0
    for statement in body:
        size += 1 + check_statement(statement, setting)
        # Asked at each statement: a body that holds one tuple in many spots may be far
        # larger than can be walked to its end.
        need(size <= MOST_SIZE, "there are too many statements")
    return size


def check_word(word, known):
    """The size of a word's body; what is no word behind the known ones is refused."""
    need(is_tuple_of(word, 3), "a word is a tuple of a name, how many numbers it takes, and a body")
    name, many, body = word
    need(is_name(name), "a name is a text of some small letters")
    need(name not in known, "the names of words are unlike")
    need(is_int_within(many, 0, len(NUMBERS)), "how many numbers a word takes is an int within its bounds")
    return check_body(body, Setting(known, many, False, 0))


def check(thing):
    """True, of a program; whatever is no program is refused."""
    need(is_tuple_of(thing, 2), "a program is a tuple of words and a body")
    words, body = thing
    need(isinstance(words, tuple) and len(words) <= MOST_WORDS, "words are a tuple, and not too many")
    known = {}
    size = 0
    for word in words:
        size += check_word(word, known)
        known[word[0]] = word[1]
    size += check_body(body, Setting(known, 0, False, 0))
    need(size <= MOST_SIZE, "there are too many statements")
    return True


def bodies_of(statement):
    """The bodies that stand in a statement, in order."""
    shape = SHAPES[statement[0]]
    return [part for kind, part in zip(shape, statement[1:]) if kind == "body"]


def size_of(program):
    """How many statements there are in all bodies of a program."""
    words, body = program
    waiting = [word[2] for word in words]
    waiting.append(body)
    size = 0
    while waiting:
        part = waiting.pop()
        size += len(part)
        for statement in part:
            waiting.extend(bodies_of(statement))
    return size
