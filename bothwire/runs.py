"""Runs: what a circuit makes of a state, a branch for each way in which its readings go."""

from bothwire.circuits import Asking, Circuit, Reading, is_plain_circuit
from bothwire.errors import NoCircuit, NoState
from bothwire.numbers import NOUGHT
from bothwire.rowbits import bits_of
from bothwire.states import State, begun, is_state


def run(circuit, state):
    """The branches, pairs of the bits read and the state that they leave, rising by bits."""
    if not isinstance(circuit, Circuit):
        raise NoCircuit("what is run is a circuit")
    if not is_state(state, circuit.many()):
        raise NoState("a circuit is run on a state of as many wires")
    branches = [((), state)]
    for row in circuit.rows():
        if isinstance(row, Reading):
            branches = _parted(branches, row.wire)
        elif isinstance(row, Asking):
            branches = _asked(branches, circuit.bits().index(row.bit), row)
        else:
            branches = [(bits, row.on(own)) for bits, own in branches]
    return branches


def columns(circuit):
    """What a plain circuit makes of the states at each row, in order."""
    if not is_plain_circuit(circuit):
        raise NoCircuit("columns are told of plain circuits")
    many = circuit.many()
    return [run(circuit, begun(many, row))[0][1] for row in range(1 << many)]


def _parted(branches, wire):
    """The branches behind a reading of a wire. They rise by bits where those ahead do."""
    found = []
    for bits, state in branches:
        for bit in (0, 1):
            eighths = _left_by(state, wire, bit)
            if any([one != NOUGHT for one in eighths]):
                found.append((bits + (bit,), State(eighths)))
    return found


def _left_by(state, wire, bit):
    """What a state has at the rows that have the bit at the wire, all else nought."""
    many = state.many()
    return [one if bits_of(many, row)[wire] == bit else NOUGHT for row, one in enumerate(state.eighths())]


def _asked(branches, place, row):
    """The branches behind an asking gate, whose bit is the one read at this place."""
    return [(bits, row.gate.on(own) if bits[place] == row.value else own) for bits, own in branches]
