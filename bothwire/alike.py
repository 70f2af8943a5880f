"""Two circuits held against one another: alike by one turn, or parted by an input."""

from bothwire.circuits import is_plain_circuit
from bothwire.errors import NoCircuit, NoState
from bothwire.kinds import MOST_WIRES, is_within
from bothwire.numbers import NOUGHT, ONE, over_root
from bothwire.runs import columns
from bothwire.states import State


def held(one, other):
    """("alike", j), or ("parted", rows), the rows of an input that parts them; NoCircuit."""
    if not is_plain_circuit(one) or not is_plain_circuit(other) or one.many() != other.many():
        raise NoCircuit("only plain circuits of as many wires are held against one another")
    turns = [left.turn_to(right) for left, right in zip(columns(one), columns(other))]
    if None in turns:
        return ("parted", (turns.index(None),))
    for row, turn in enumerate(turns):
        if turn != turns[0]:
            return ("parted", (0, row))
    return ("alike", turns[0])


def input_of(many, rows):
    """The state at one row, or at two rising ones together, of so many wires; NoState."""
    if not is_within(many, 1, MOST_WIRES):
        raise NoState("an input has 1 to 5 wires")
    if not isinstance(rows, tuple) or len(rows) not in (1, 2):
        raise NoState("the rows of an input are a tuple of one or of two")
    if not all([is_within(row, 0, (1 << many) - 1) for row in rows]):
        raise NoState("the wires have no such row")
    if len(rows) == 2 and rows[0] >= rows[1]:
        raise NoState("two rows of an input rise")
    eighths = [NOUGHT] * (1 << many)
    for row in rows:
        eighths[row] = over_root(ONE, len(rows) - 1)
    return State(eighths)
