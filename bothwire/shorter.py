"""Circuits made shorter: step by step, each by a told rule, the least step first."""

from bothwire.circuits import Circuit, is_plain_circuit
from bothwire.errors import NoCircuit, NoRow
from bothwire.kinds import is_within
from bothwire.meetings import three_come_to, two_come_to


def can_step(circuit, step):
    """Whether a step can be done on a plain circuit; NoCircuit."""
    _check_plain(circuit)
    gates = circuit.rows()
    return _has_places(step, len(gates)) and _put_by(gates, step) is not None


def stepped(circuit, step):
    """The circuit behind a step; NoCircuit, then NoRow of what can't be done."""
    if not can_step(circuit, step):
        raise NoRow("this step can't be done on the circuit")
    return Circuit(circuit.many(), _left_by(circuit.rows(), step))


def shortened(circuit):
    """The pair of the shortened circuit and the list of the steps that led there; NoCircuit."""
    _check_plain(circuit)
    gates = circuit.rows()
    steps = []
    step = _least_step(gates)
    while step is not None:
        steps.append(step)
        gates = _left_by(gates, step)
        step = _least_step(gates)
    return (Circuit(circuit.many(), gates), steps)


def _check_plain(circuit):
    """NoCircuit of what is no plain circuit."""
    if not is_plain_circuit(circuit):
        raise NoCircuit("only plain circuits are made shorter")


def _has_places(step, many):
    """Whether a thing is a tuple of two or three places in a list of so many gates."""
    if not isinstance(step, tuple) or len(step) not in (2, 3):
        return False
    return all([is_within(place, 0, many - 1) for place in step])


def _put_by(gates, step):
    """A list of what a step puts in the place of its second gate, of none for nothing; None where it can't be done."""
    if not all([_met_by(gates, one) == other for one, other in zip(step, step[1:])]):
        return None
    own = [gates[place] for place in step]
    if len(own) == 2:
        return two_come_to(*own)
    return three_come_to(*own)


def _left_by(gates, step):
    """The gates behind a step that can be done."""
    found = []
    for place, gate in enumerate(gates):
        if place == step[1]:
            found.extend(_put_by(gates, step))
        elif place not in step:
            found.append(gate)
    return found


def _met_by(gates, at):
    """The first place behind whose gate has a wire in common with the one there; None where there is none.

    All gates between go by this one. So of gates that have a wire in common these two meet, no others.
    """
    wires = gates[at].wires()
    for place in range(at + 1, len(gates)):
        if any([wire in wires for wire in gates[place].wires()]):
            return place
    return None


def _least_step(gates):
    """The least step that can be done, as tuples are ordered; None where there is none."""
    for first in range(len(gates)):
        for step in _steps_from(gates, first):
            if _put_by(gates, step) is not None:
                return step
    return None


def _steps_from(gates, first):
    """The steps that may begin with a gate, in order: its wires leave no others open."""
    middle = _met_by(gates, first)
    if middle is None:
        return []
    last = _met_by(gates, middle)
    if last is None:
        return [(first, middle)]
    return [(first, middle), (first, middle, last)]
