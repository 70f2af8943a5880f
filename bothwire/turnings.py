"""Turnings: where circuits of bit gates bring each row, and circuits of bit gates that do as a turning tells."""

from bothwire.circuits import Circuit, is_plain_circuit
from bothwire.errors import NoTurning
from bothwire.gates import gate_of
from bothwire.kinds import is_within
from bothwire.rowbits import bits_of, row_of

# By how many wires are asked: the word of the gate that puts a bit the other way where these have 1.
WORD_BY_ASKED = ("x", "cx", "ccx")


def turning_of(circuit):
    """The list of the rows to which each row goes; NoTurning of what is no plain circuit of bit gates."""
    if not is_plain_circuit(circuit) or not all([gate.is_bit() for gate in circuit.rows()]):
        raise NoTurning("a turning is told of plain circuits of bit gates")
    many = circuit.many()
    found = []
    for row in range(1 << many):
        bits = bits_of(many, row)
        for gate in circuit.rows():
            bits = _bits_behind(gate, bits)
        found.append(row_of(bits))
    return found


def turning_circuit(rows):
    """A circuit of bit gates that brings each row to the one told; NoTurning of what is no turning of 1 to 3 wires."""
    if not _is_turning(rows):
        raise NoTurning("a turning is a list of the rows of 1 to 3 wires, each once")
    many = len(rows).bit_length() - 1
    left = [bits_of(many, row) for row in rows]
    gates = []
    # What the turning has made of the rows is brought home row by row, by gates that undo themselves.
    # Done the other way about, these do the turning.
    for row in range(len(rows)):
        for gate in _gates_home(left[row], bits_of(many, row)):
            left = [_bits_behind(gate, bits) for bits in left]
            gates.append(gate)
    return Circuit(many, list(reversed(gates)))


def _is_turning(rows):
    """Whether a thing is a list of the rows of 1 to 3 wires, each once."""
    if not isinstance(rows, list) or len(rows) not in (2, 4, 8):
        return False
    return all([is_within(row, 0, len(rows) - 1) for row in rows]) and len(set(rows)) == len(rows)


def _bits_behind(gate, bits):
    """What a bit gate makes of the bits of a row."""
    wires = gate.wires()
    found = list(bits)
    if gate.word() == "swap":
        one, other = wires
        found[one], found[other] = bits[other], bits[one]
    elif all([bits[wire] == 1 for wire in wires[:-1]]):
        found[wires[-1]] = 1 - bits[wires[-1]]
    return tuple(found)


def _gates_home(bits, home):
    """Gates that bring a row of bits to its home, which is no farther behind, and move no row ahead of that.

    First all ones are put in that home has, then all others are taken out. The gates ask the ones of the
    row, then those of home: no row ahead of home has all of these.
    """
    put = [_gate_asking(bits, wire) for wire, bit in enumerate(home) if bit > bits[wire]]
    taken = [_gate_asking(home, wire) for wire, bit in enumerate(home) if bit < bits[wire]]
    return put + taken


def _gate_asking(bits, wire):
    """The gate that puts a wire the other way where all wires have 1 that have it in these bits."""
    asked = tuple([at for at, bit in enumerate(bits) if bit == 1])
    return gate_of(WORD_BY_ASKED[len(asked)], asked + (wire,))
