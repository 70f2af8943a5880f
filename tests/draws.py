"""Circuits drawn for the tests, the same each time for a chance of the same seed."""

from bothwire.circuits import Asking, Circuit, Reading
from bothwire.gates import gate_of
from tests.stateoracle import TABLE, each_gate

BITS = ("ar", "bs", "ct", "du", "ev")


def mixed_circuit(chance, many, rows, readings, words=tuple(TABLE)):
    """A circuit of so many wires, rows and readings, the other rows gates of these words and asking gates."""
    gates = each_gate(many, words)
    places = set(chance.sample(range(rows), readings))
    names = chance.sample(BITS, readings)
    found, bits = [], []
    for at in range(rows):
        gate = gate_of(*chance.choice(gates))
        if at in places:
            bits.append(names[len(bits)])
            found.append(Reading(chance.randrange(many), bits[-1]))
        elif bits and chance.random() < 0.4:
            found.append(Asking(chance.choice(bits), chance.randrange(2), gate))
        else:
            found.append(gate)
    return Circuit(many, found)


def plain_circuit(chance, many, rows, words=tuple(TABLE)):
    """A circuit of gates alone, of these words."""
    return mixed_circuit(chance, many, rows, 0, words)
