"""Runs of sign tables: the branches of a circuit of quarter gates, without their eighths."""

from bothwire.circuits import Asking, Circuit, Reading
from bothwire.errors import NoCircuit, NoGate
from bothwire.signtables import plain_table


def table_run(circuit):
    """The branches of the run on the state at row 0, triples (bits, k, SignTable), rising by bits."""
    if not isinstance(circuit, Circuit):
        raise NoCircuit("what is run is a circuit")
    rows = circuit.rows()
    if not all([_has_table(row) for row in rows]):
        raise NoGate("sign tables are told of quarter gates alone")
    branches = [((), 0, plain_table(circuit.many()))]
    for row in rows:
        if isinstance(row, Reading):
            branches = _parted(branches, row.wire)
        elif isinstance(row, Asking):
            branches = _asked(branches, circuit.bits().index(row.bit), row)
        else:
            branches = [(bits, k, table.on(row)) for bits, k, table in branches]
    return branches


def _has_table(row):
    """Whether behind a row of a circuit tables are told."""
    if isinstance(row, Reading):
        return True
    gate = row.gate if isinstance(row, Asking) else row
    return gate.is_quarter()


def _parted(branches, wire):
    """The branches behind a reading of a wire. They rise by bits where those ahead do."""
    found = []
    for bits, k, table in branches:
        told = table.told(wire)
        if told is None:
            found.extend([(bits + (bit,), k + 1, table.read(wire, bit)) for bit in (0, 1)])
        else:
            found.append((bits + (told,), k, table.read(wire, told)))
    return found


def _asked(branches, place, row):
    """The branches behind an asking gate, whose bit is the one read at this place."""
    return [
        (bits, k, table.on(row.gate) if bits[place] == row.value else table) for bits, k, table in branches
    ]
