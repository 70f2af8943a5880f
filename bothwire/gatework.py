"""What the classes of gates have in common: their words, their wires, their texts and how they are done."""

from bothwire.errors import NoGate, NoState, NoWire
from bothwire.kinds import MOST_WIRES, is_within
from bothwire.numbers import NOUGHT, over_root, plus, turned
from bothwire.rowbits import bits_of, row_of
from bothwire.states import State

# How many wires a gate has, by its word.
WIRES_BY_WORD = {
    "x": 1, "y": 1, "z": 1, "s": 1, "r": 1, "t": 1, "u": 1, "h": 1,
    "cx": 2, "cz": 2, "swap": 2, "ccx": 3,
}


def check_word(word, wires):
    """NoGate of what is no word of a gate, or of what is no tuple of as many wires as it has."""
    if not isinstance(word, str) or word not in WIRES_BY_WORD:
        raise NoGate("there is no gate of such a word")
    if not isinstance(wires, tuple) or len(wires) != WIRES_BY_WORD[word]:
        raise NoGate("the gate has another number of wires")


def unlike_wires(wires):
    """The same wires; NoWire of what are no unlike numbers from 0 to 4."""
    if not all([is_within(wire, 0, MOST_WIRES - 1) for wire in wires]):
        raise NoWire("wires are numbers from 0 to 4")
    if len(set(wires)) != len(wires):
        raise NoWire("a gate has unlike wires")
    return wires


def text_of(word, wires):
    """The word and the wires, a blank between."""
    return " ".join([word] + [str(wire) for wire in wires])


def carried(state, wires, goes):
    """The state behind a gate, each of whose rows goes to the rows told.

    By a row's bits at the wires goes tells a list of triples: the bits that come there in their
    place, by how many eighths of a turn the row's eighth is turned, by how many roots it is parted.
    """
    if not isinstance(state, State):
        raise NoState("a gate is done on a state")
    many = state.many()
    if max(wires) >= many:
        raise NoWire("the state has too few wires for the gate")
    found = [NOUGHT] * (1 << many)
    for row, eighth in enumerate(state.eighths()):
        bits = bits_of(many, row)
        own = [bits[wire] for wire in wires]
        for others, turn, roots in goes(*own):
            to = _row_with(bits, wires, others)
            found[to] = plus(found[to], over_root(turned(eighth, turn), roots))
    return State(found)


def _row_with(bits, wires, others):
    """The row of these bits, but for the wires, which have the other ones."""
    mixed = list(bits)
    for wire, bit in zip(wires, others):
        mixed[wire] = bit
    return row_of(mixed)
