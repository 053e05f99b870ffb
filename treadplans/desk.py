"""A desk: lines of words at a loom, and its answers."""

from treadplans.errors import BadLine
from treadplans.words import is_name

NOTHING = "none"


def undo(loom):
    """Undoes the last deed."""
    loom.undo()
    return "ok"


def redo(loom):
    """Does the deed again that was undone last."""
    loom.redo()
    return "ok"


def can(loom):
    """The kinds of picks that can be woven now."""
    return " ".join(loom.can) if loom.can else NOTHING


def left(loom):
    """The fewest picks until the picks are a row."""
    return str(loom.left)


def picks(loom):
    """How many picks are woven."""
    return str(len(loom))


def floating(loom):
    """For each end the side on which it lies, and at how many picks."""
    return ",".join([f"{side} {many}" for side, many in loom.floating]) if loom.floating else NOTHING


def parts(loom):
    """How many parts the cloth has."""
    return str(len(loom.cloth().parts))


ANSWERS = {
    "undo": undo, "redo": redo, "can": can, "left": left, "picks": picks, "floating": floating, "parts": parts}


class Desk:
    """A desk at a loom."""

    def __init__(self, loom):
        self.loom = loom

    def say(self, line):
        """The answer to a line, any value."""
        if not isinstance(line, str):
            raise BadLine(line)
        if line in ANSWERS:
            answer = ANSWERS[line]
            return answer(self.loom)
        word, _, name = line.partition(" ")
        if word != "weave" or not is_name(name):
            raise BadLine(line)
        return " ".join(self.loom.weave(name))
