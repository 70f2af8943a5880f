"""The refusals of the program: each kind is an error class right under WireError."""


class WireError(ValueError):
    """Any refusal."""


class NoNumber(WireError):
    """No number where one is asked for."""


class NoState(WireError):
    """No state of the wires that are asked for."""


class NoGate(WireError):
    """No gate of the kind that is asked for."""


class NoWire(WireError):
    """No wires that a gate or a state has."""


class NoText(WireError):
    """No text of a circuit: the field row is the number of the row that is refused."""

    def __init__(self, row):
        # The base keeps the number as the message by itself: written out here, a vast one would fail.
        self.row = row


class TooMany(WireError):
    """More rows or readings than a circuit may have."""


class NoCircuit(WireError):
    """No circuit of the kind that is asked for."""


class NoTable(WireError):
    """No sign row or sign table."""


class NoTurning(WireError):
    """No turning of rows."""


class NoCode(WireError):
    """No code, or no error of its wires."""


class NoRow(WireError):
    """No row of words of the desk, or no step that can be done."""
