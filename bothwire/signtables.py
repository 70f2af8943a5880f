"""Sign tables: as many sign rows as wires, which go together and tell one state between them."""

from bothwire.errors import NoGate, NoState, NoTable, NoWire
from bothwire.gates import Gate
from bothwire.kinds import MOST_WIRES, is_within
from bothwire.numbers import over_root, plus
from bothwire.rowbits import bits_of
from bothwire.signmoves import moved
from bothwire.signrows import all_hold, left_over, together, told_of
from bothwire.signs import done
from bothwire.states import State, begun, is_state


class SignTable:
    """A sign table, of a list of sign rows; it never changes."""

    def __init__(self, rows):
        if not isinstance(rows, list) or not 1 <= len(rows) <= MOST_WIRES:
            raise NoTable("a sign table has a list of sign rows, as many as wires")
        told = told_of(rows, len(rows))
        if told is None:
            raise NoTable("the rows go together, none nor a product of some does nothing")
        self._rows = told

    def many(self):
        """How many wires it has."""
        return len(self._rows)

    def rows(self):
        """The rows that are told of it, a list."""
        return list(self._rows)

    def on(self, gate):
        """The table behind a quarter gate; NoGate, then NoWire."""
        if not isinstance(gate, Gate) or not gate.is_quarter():
            raise NoGate("on a sign table only quarter gates are done")
        if max(gate.wires()) >= self.many():
            raise NoWire("the table has too few wires for the gate")
        return SignTable([moved(row, gate) for row in self._rows])

    def told(self, wire):
        """What is read at a wire: 0, 1, or None where either is; NoWire."""
        self._check_wire(wire)
        if len(self._with_x(wire)) > 0:
            return None
        turn, _, _ = left_over(self._rows, self._reading(wire, 0))
        return turn

    def read(self, wire, bit):
        """The table of the branch behind a reading; NoWire, then NoTable."""
        told = self.told(wire)
        if not is_within(bit, 0, 1) or told == 1 - bit:
            raise NoTable("this is not read at the wire")
        if told == bit:
            return SignTable(self.rows())
        # What goes with the reading stays. Of two rows that don't the product does, so that just
        # one of these is lost, and the reading stands in its place.
        lost = self._with_x(wire)[0]
        rows = [together(row, lost) if row[1][wire] == 1 else row for row in self._rows if row != lost]
        return SignTable(rows + [self._reading(wire, bit)])

    def holds(self, state):
        """Whether all rows hold a state; NoState."""
        if not is_state(state, self.many()):
            raise NoState("a table holds states of as many wires")
        return all_hold(self._rows, state)

    def state(self):
        """The state that all rows hold, of length 1, its first eighth 1 by roots."""
        flipping = [row for row in self._rows if 1 in row[1]]
        eighths = begun(self.many(), self._first_row()).eighths()
        state = State([over_root(one, len(flipping)) for one in eighths])
        # The sum of a state and what a row makes of it is held by that row, and by each that held
        # the state. Rows that flip never come back to a row of bits, so none is added up.
        for row in flipping:
            pairs = list(zip(state.eighths(), done(row, state).eighths()))
            state = State([plus(one, other) for one, other in pairs])
        return state

    def _first_row(self):
        """The first row of bits where the state isn't nought: the least that all rows without x hold."""
        still = [row for row in self._rows if 1 not in row[1]]
        many = self.many()
        return min([at for at in range(1 << many) if all([_holds_at(row, bits_of(many, at)) for row in still])])

    def _with_x(self, wire):
        """The rows that do x or y at a wire: those that don't go with reading it."""
        return [row for row in self._rows if row[1][wire] == 1]

    def _reading(self, wire, bit):
        """The sign row that holds all states that have the bit at the wire."""
        return _z_at(self.many(), wire, bit)

    def _check_wire(self, wire):
        """NoWire of what is no wire of the table."""
        if not is_within(wire, 0, self.many() - 1):
            raise NoWire("the table has no such wire")


def plain_table(many):
    """The table of the state at row 0."""
    if not is_within(many, 1, MOST_WIRES):
        raise NoTable("a table has 1 to 5 wires")
    return SignTable([_z_at(many, wire, 0) for wire in range(many)])


def _z_at(many, wire, turn):
    """The sign row that does z at one wire."""
    return (turn, (0,) * many, tuple([1 if at == wire else 0 for at in range(many)]))


def _holds_at(row, bits):
    """Whether a sign row without x holds the state at the row of these bits."""
    turn, _, zs = row
    return (turn + sum([z * bit for z, bit in zip(zs, bits)])) % 2 == 0
