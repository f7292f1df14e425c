"""A player, which plays a run stroke by stroke."""

from turtlehouse.floor import BEGINNING
from turtlehouse.forms import form_of
from turtlehouse.runs import run


class Player:
    """Plays the strokes of a run, and takes them back."""

    def __init__(self, program, most):
        """at is how many strokes were played, and so the number of the next one."""
        self.strokes = run(program, most)[0]
        self.at = 0

    def play(self):
        """The next stroke, or None where there is none left."""
        if self.left() == 0:
            return None
        self.at += 1
        return self.strokes[self.at - 1]

    def take_back(self):
        """The last stroke that was played, which is the next one again; or None."""
        if self.at == 0:
            return None
        self.at -= 1
        return self.strokes[self.at]

    def played(self):
        """How many strokes were played."""
        return self.at

    def left(self):
        """How many strokes are left."""
        return len(self.strokes) - self.at

    def drawn(self):
        """The form of the strokes that were played."""
        return form_of(self.strokes[: self.at])

    def place(self):
        """Where the pen is."""
        return self.strokes[self.at - 1][2] if self.at > 0 else BEGINNING
