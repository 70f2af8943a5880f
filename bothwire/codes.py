"""Codes: sign rows that go together, and the states that all of them hold."""

from bothwire.errorrows import each_error, is_error, size_of
from bothwire.errors import NoCode, NoState
from bothwire.kinds import MOST_WIRES
from bothwire.signrows import all_hold, does_nothing, left_over, told_of
from bothwire.signs import goes_with, is_sign_row, product
from bothwire.states import is_state


class Code:
    """A code, of a list of sign rows; it never changes."""

    def __init__(self, rows):
        if not isinstance(rows, list) or not 1 <= len(rows) <= MOST_WIRES or not is_sign_row(rows[0]):
            raise NoCode("a code has a list of sign rows")
        many = len(rows[0][1])
        told = told_of(rows, many)
        if len(rows) > many or told is None:
            raise NoCode("the rows go together, none nor a product of some does nothing")
        self._rows = told

    def many(self):
        """How many wires it has."""
        return len(self._rows[0][1])

    def rows(self):
        """The rows that are told of it, a list."""
        return list(self._rows)

    def signs(self, error):
        """For each told row 0 where the error goes together with it, else 1, a tuple; NoCode."""
        self._check_error(error)
        return tuple([0 if goes_with(row, error) else 1 for row in self._rows])

    def same(self, one, other):
        """Whether two errors do the same on each of its states but for a turn; NoCode."""
        if self.signs(one) != self.signs(other):
            return False
        _, row = product(one, other)
        return self._does_nothing(row)

    def far(self):
        """The least size of an error that has no sign and does something, or None."""
        return min([size_of(error) for error in each_error(self.many()) if self._is_missed(error)], default=None)

    def holds(self, state):
        """Whether all rows hold a state; NoState."""
        if not is_state(state, self.many()):
            raise NoState("a code holds states of as many wires")
        return all_hold(self._rows, state)

    def _check_error(self, error):
        """NoCode of what is no error of as many wires."""
        if not is_error(error, self.many()):
            raise NoCode("an error of a code is a sign row of as many wires with turn 0")

    def _does_nothing(self, error):
        """Whether an error without signs is a product of rows, but for the turn."""
        return does_nothing(left_over(self._rows, error))

    def _is_missed(self, error):
        """Whether an error has no sign, and isn't the same as doing nothing."""
        return 1 not in self.signs(error) and not self._does_nothing(error)
