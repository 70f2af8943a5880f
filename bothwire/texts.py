"""Texts of circuits: how they are read, with circuits told within them, and how they are written."""

from bothwire.circuits import MOST_ROWS, Asking, Circuit, Reading
from bothwire.errors import NoCircuit, NoGate, NoText, NoWire
from bothwire.gates import gate_of
from bothwire.kinds import MOST_WIRES, is_name, words_of

MOST_SIGNS = 4000


class Part:
    """A circuit that is told by a text, or within one: its name, how many wires it has, its rows so far."""

    def __init__(self, name, wide):
        self.name = name
        self.wide = wide
        self.placed = []


class Sheet:
    """A text as far as it was read: what its rows have told, and the number of the last one."""

    def __init__(self):
        self._at = 0
        self._main = None
        # The circuit that is told within the text just now, and those whose end was read, by names.
        self._inner = None
        self._parts = {}
        self._bits = []

    def take(self, row):
        """Read the next row; NoText where it isn't so or can't stand here."""
        self._at += 1
        words = words_of(row.partition("#")[0])
        if len(words) == 0:
            return
        if self._main is None:
            self._take_wires(words)
        elif words[0] == "circuit":
            self._take_circuit(words)
        elif words[0] == "end":
            self._take_end(words)
        elif words[0] in ("do", "undo"):
            self._take_doing(words)
        elif words[0] == "read":
            self._take_reading(words)
        elif words[0] == "if":
            self._take_asking(words)
        else:
            self._here().placed.append(self._gate(words))

    def circuit(self):
        """The circuit that all rows have told; NoText where one lacks, then TooMany."""
        self._at += 1
        self._need(self._main is not None and self._inner is None)
        return Circuit(self._main.wide, self._main.placed)

    def _need(self, fine):
        """NoText of the row that is being read, where it isn't fine."""
        if not fine:
            raise NoText(self._at)

    def _here(self):
        """The circuit that the row that is being read belongs to."""
        return self._main if self._inner is None else self._inner

    def _number(self, word, low, high):
        """The number that a word of one figure tells, from low to high."""
        self._need(len(word) == 1 and "0" <= word <= "9")
        number = int(word)
        self._need(low <= number <= high)
        return number

    def _wires_of(self, words):
        """The wires that these words tell of the circuit that the row belongs to."""
        return tuple([self._number(word, 0, self._here().wide - 1) for word in words])

    def _gate(self, words):
        """The gate that these words tell."""
        wires = self._wires_of(words[1:])
        try:
            return gate_of(words[0], wires)
        except (NoGate, NoWire):
            raise NoText(self._at) from None

    def _take_wires(self, words):
        self._need(words[0] == "wires" and len(words) == 2)
        self._main = Part("", self._number(words[1], 1, MOST_WIRES))

    def _take_circuit(self, words):
        self._need(self._inner is None and len(words) == 3)
        name = words[1]
        self._need(is_name(name) and name not in self._parts)
        self._inner = Part(name, self._number(words[2], 1, MOST_WIRES))

    def _take_end(self, words):
        self._need(self._inner is not None and len(words) == 1)
        # Only now can it be done: no circuit does itself.
        self._parts[self._inner.name] = self._inner
        self._inner = None

    def _take_doing(self, words):
        self._need(len(words) > 1 and words[1] in self._parts)
        part = self._parts[words[1]]
        wires = self._wires_of(words[2:])
        self._need(len(wires) == part.wide and len(set(wires)) == len(wires))
        gates = [gate_of(gate.word(), tuple([wires[wire] for wire in gate.wires()])) for gate in part.placed]
        if words[0] == "undo":
            gates = [gate.back() for gate in reversed(gates)]
        here = self._here()
        # Circuits that do one another grow beyond all bounds, and one row too many is enough to be
        # refused. Only what is put in place now is left out: rows ahead may be readings that are asked.
        here.placed.extend(gates[:max(0, MOST_ROWS + 1 - len(here.placed))])

    def _take_reading(self, words):
        self._need(self._inner is None and len(words) == 3)
        wire = self._number(words[1], 0, self._main.wide - 1)
        bit = words[2]
        self._need(is_name(bit) and bit not in self._bits)
        self._bits.append(bit)
        self._main.placed.append(Reading(wire, bit))

    def _take_asking(self, words):
        self._need(self._inner is None and len(words) > 3 and words[1] in self._bits)
        value = self._number(words[2], 0, 1)
        self._main.placed.append(Asking(words[1], value, self._gate(words[3:])))


def read(text):
    """The circuit that a text tells; NoText with the number of the row, then TooMany."""
    if not isinstance(text, str) or len(text) > MOST_SIGNS:
        raise NoText(0)
    sheet = Sheet()
    for row in text.split("\n"):
        sheet.take(row)
    return sheet.circuit()


def written(circuit):
    """The text of a circuit."""
    if not isinstance(circuit, Circuit):
        raise NoCircuit("what is written is a circuit")
    rows = [f"wires {circuit.many()}"] + list(circuit.told())
    return "".join([row + "\n" for row in rows])
