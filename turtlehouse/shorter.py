"""Plain programs said shorter, by rounds."""

from turtlehouse.errors import TooLong

MOST_STATEMENTS = 60


def parted(start, end, found):
    """The shortest way to say a stretch as two that stand one behind the other: (size, body)."""
    middles = list(range(start + 1, end))
    sizes = [found[(start, middle)][0] + found[(middle, end)][0] for middle in middles]
    least = min(sizes)
    middle = middles[sizes.index(least)]
    return (least, found[(start, middle)][1] + found[(middle, end)][1])


def is_again(statements, start, end, step):
    """Whether a stretch is its first so many statements again and again."""
    if (end - start) % step != 0:
        return False
    return statements[start : end - step] == statements[start + step : end]


def shortest(statements, start, end, found):
    """The shortest way to say a stretch, of which all lesser ones are found: (size, body)."""
    length = end - start
    if length == 1:
        return (1, statements[start:end])
    best = parted(start, end, found)
    for step in range(1, length // 2 + 1):
        size, body = found[(start, start + step)]
        if size + 1 < best[0] and is_again(statements, start, end, step):
            best = (size + 1, (("again", length // step, body),))
    return best


def shorter(program):
    """A program of rounds, as small as can be, that put in is just that plain program."""
    statements = program[1]
    many = len(statements)
    if many > MOST_STATEMENTS:
        raise TooLong("there are too many statements")
    # By where a stretch begins and ends: its size said shortest, and the body that says it so.
    found = {(0, 0): (0, ())}
    for length in range(1, many + 1):
        for start in range(many - length + 1):
            found[(start, start + length)] = shortest(statements, start, start + length, found)
    return ((), found[(0, many)][1])
