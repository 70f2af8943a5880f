"""Things of other kinds than asked for, for the tests of what is refused."""

from bothwire.circuits import Circuit, Reading
from bothwire.gates import X


class Odd:
    """A thing of no kind that the program has."""


NO_NUMBERS = (True, False, "1", "", None, (1,), [1], {}, b"1", {1}, Odd(), Odd, len)

NO_NAMES = (
    "", "abcdefghi", "A", "aB", "a1", "1", "a b", " a", "a ", "a_b", "a-b", "a\n", "a\t", "#", "abcdefgH",
    None, 1, True, b"a", ("a",), ["a"], {"a": 1}, {"a"}, Odd(),
)

NO_STATES = (None, 1, True, "state", (), [], [(1, 0, 0, 0, 0), (0, 0, 0, 0, 0)], {}, Odd(), Odd)

NO_CIRCUITS = (None, 1, True, "wires 1\n", [], [X(0)], (), {}, X(0), Reading(0, "a"), Odd(), Circuit)
