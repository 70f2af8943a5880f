"""Circuits: rows of gates, of readings and of gates that ask what was read."""

from bothwire.errors import NoCircuit, TooMany
from bothwire.gates import Gate
from bothwire.kinds import MOST_WIRES, is_name, is_within

MOST_ROWS = 60
MOST_READINGS = 5


class Reading:
    """A wire is read into a bit; whether there are such ones, the circuit asks."""

    def __init__(self, wire, bit):
        self.wire = wire
        self.bit = bit

    def text(self):
        """The row that it is in a circuit's text."""
        return f"read {self.wire} {self.bit}"


class Asking:
    """A gate that is done where a bit was read as a value; whether there are such ones, the circuit asks."""

    def __init__(self, bit, value, gate):
        self.bit = bit
        self.value = value
        self.gate = gate

    def text(self):
        """The row that it is in a circuit's text."""
        return f"if {self.bit} {self.value} {self.gate.text()}"


class Circuit:
    """A circuit, of its number of wires and the list of its rows; it never changes."""

    def __init__(self, many, rows):
        if not is_within(many, 1, MOST_WIRES):
            raise NoCircuit("a circuit has 1 to 5 wires")
        if not isinstance(rows, list):
            raise NoCircuit("a circuit has a list of rows")
        bits = _bits_read(many, rows)
        if len(rows) > MOST_ROWS or len(bits) > MOST_READINGS:
            raise TooMany("a circuit has at most 60 rows, at most 5 of them readings")
        self._many = many
        self._rows = list(rows)
        self._bits = tuple(bits)

    def many(self):
        """How many wires it has."""
        return self._many

    def rows(self):
        """Its rows, a list."""
        return list(self._rows)

    def told(self):
        """The texts of its rows, a tuple."""
        return tuple([row.text() for row in self._rows])

    def bits(self):
        """The bits in the order in which they are read, a tuple."""
        return self._bits

    def is_plain(self):
        """Whether it has gates alone."""
        return all([isinstance(row, Gate) for row in self._rows])

    def back(self):
        """The circuit that undoes it; NoCircuit where it has more than gates."""
        if not self.is_plain():
            raise NoCircuit("what was read or asked is not undone")
        return Circuit(self._many, [row.back() for row in reversed(self._rows)])

    def then(self, other):
        """The circuit of this one and the other one behind it; NoCircuit, then TooMany."""
        if not isinstance(other, Circuit) or other.many() != self._many:
            raise NoCircuit("the other one is no circuit of as many wires")
        return Circuit(self._many, self._rows + other.rows())


def is_plain_circuit(thing):
    """Whether a thing is a circuit of gates alone."""
    return isinstance(thing, Circuit) and thing.is_plain()


def _bits_read(many, rows):
    """The bits that the rows read, in order; NoCircuit where a thing is no row, or can't stand there."""
    bits = []
    for row in rows:
        if isinstance(row, Reading):
            if not _can_read(row, many, bits):
                raise NoCircuit("a reading has a wire of the circuit, and a bit that is read once")
            bits.append(row.bit)
        elif isinstance(row, Asking):
            if not _can_ask(row, many, bits):
                raise NoCircuit("an asking gate has a bit read ahead of it, 0 or 1, and a gate on the circuit's wires")
        elif not _is_gate(row, many):
            raise NoCircuit("a row is a reading, an asking gate or a gate on the circuit's wires")
    return bits


def _can_read(row, many, bits):
    """Whether a reading can stand behind the readings of these bits."""
    return is_within(row.wire, 0, many - 1) and is_name(row.bit) and row.bit not in bits


def _can_ask(row, many, bits):
    """Whether an asking gate can stand behind the readings of these bits."""
    return row.bit in bits and is_within(row.value, 0, 1) and _is_gate(row.gate, many)


def _is_gate(thing, many):
    """Whether a thing is a gate on so many wires."""
    return isinstance(thing, Gate) and max(thing.wires()) < many
