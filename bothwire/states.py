"""States: an eighth for each row of bits of 1 to 5 wires."""

from bothwire.errors import NoState
from bothwire.kinds import MOST_WIRES, is_within
from bothwire.lengths import length_sum, square
from bothwire.numbers import NOUGHT, ONE, is_eighth, mirror, plus, times, turned


class State:
    """A state, of the list of the eighths of its rows; it never changes."""

    def __init__(self, eighths):
        if not isinstance(eighths, list) or len(eighths) not in (2, 4, 8, 16, 32):
            raise NoState("a state is a list of 2, 4, 8, 16 or 32 eighths")
        if not all([is_eighth(one) for one in eighths]):
            raise NoState("a row of a state has no eighth")
        self._eighths = list(eighths)

    def many(self):
        """How many wires it has."""
        return len(self._eighths).bit_length() - 1

    def eighths(self):
        """The eighths of its rows, a list."""
        return list(self._eighths)

    def length(self):
        """The sum of the squares of its eighths."""
        return length_sum([square(one) for one in self._eighths])

    def inside(self, other):
        """The sum, row by row, of this one's mirror times the other's eighth."""
        total = NOUGHT
        for one, two in self._pairs(other):
            total = plus(total, times(mirror(one), two))
        return total

    def turn_to(self, other):
        """The least turn that makes this state the other one, or None."""
        pairs = self._pairs(other)
        for turn in range(8):
            if all([turned(one, turn) == two for one, two in pairs]):
                return turn
        return None

    def _pairs(self, other):
        """Both states' eighths, row by row."""
        if not is_state(other, self.many()):
            raise NoState("the other one is no state of as many wires")
        return list(zip(self._eighths, other.eighths()))


def is_state(thing, many):
    """Whether a thing is a state of so many wires."""
    return isinstance(thing, State) and thing.many() == many


def begun(many, row):
    """The state of so many wires at a row."""
    if not is_within(many, 1, MOST_WIRES):
        raise NoState("a state has 1 to 5 wires")
    if not is_within(row, 0, (1 << many) - 1):
        raise NoState("the state has no such row")
    eighths = [NOUGHT] * (1 << many)
    eighths[row] = ONE
    return State(eighths)
