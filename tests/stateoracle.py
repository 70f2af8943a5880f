"""What states, gates and circuits come to, reckoned in another way than the program does.

A state is here the list of what the eighths of its rows are worth; rows are texts of the figures
0 and 1, wire 0 first; a circuit is the tuple of the texts of its rows.
"""

import itertools
import random
from fractions import Fraction

from bothwire.states import State
from tests.oracle import NOUGHT, ONE, eighth_told, product_worth, some_eighths, sum_worth, worth, worth_over_root

NO_WORTH = (0, 0, 0, 0)
ONE_WORTH = (1, 0, 0, 0)

# The table of promise 7: by word and the bits at its wires the bits that come in their place, how
# many eighths of a turn, and how many roots below.
TABLE = {
    "x": {"0": [("1", 0, 0)], "1": [("0", 0, 0)]},
    "y": {"0": [("1", 2, 0)], "1": [("0", 6, 0)]},
    "z": {"0": [("0", 0, 0)], "1": [("1", 4, 0)]},
    "s": {"0": [("0", 0, 0)], "1": [("1", 2, 0)]},
    "r": {"0": [("0", 0, 0)], "1": [("1", 6, 0)]},
    "t": {"0": [("0", 0, 0)], "1": [("1", 1, 0)]},
    "u": {"0": [("0", 0, 0)], "1": [("1", 7, 0)]},
    "h": {"0": [("0", 0, 1), ("1", 0, 1)], "1": [("0", 0, 1), ("1", 4, 1)]},
    "cx": {"00": [("00", 0, 0)], "01": [("01", 0, 0)], "10": [("11", 0, 0)], "11": [("10", 0, 0)]},
    "cz": {"00": [("00", 0, 0)], "01": [("01", 0, 0)], "10": [("10", 0, 0)], "11": [("11", 4, 0)]},
    "swap": {"00": [("00", 0, 0)], "01": [("10", 0, 0)], "10": [("01", 0, 0)], "11": [("11", 0, 0)]},
    "ccx": {
        "000": [("000", 0, 0)], "001": [("001", 0, 0)], "010": [("010", 0, 0)], "011": [("011", 0, 0)],
        "100": [("100", 0, 0)], "101": [("101", 0, 0)], "110": [("111", 0, 0)], "111": [("110", 0, 0)],
    },
}

WIRES_OF = {word: len(next(iter(rows))) for word, rows in TABLE.items()}

QUARTER_WORDS = ("x", "y", "z", "s", "r", "h", "cx", "cz", "swap")
BIT_WORDS = ("x", "cx", "swap", "ccx")

BACK_WORDS = {
    "x": "x", "y": "y", "z": "z", "s": "r", "r": "s", "t": "u", "u": "t", "h": "h",
    "cx": "cx", "cz": "cz", "swap": "swap", "ccx": "ccx",
}

def rows_of(many):
    """The rows of so many wires as texts, in order."""
    return ["".join(bits) for bits in itertools.product("01", repeat=many)]


def many_of(worths):
    """How many wires a list of worths has."""
    return {2: 1, 4: 2, 8: 3, 16: 4, 32: 5}[len(worths)]


def state_worths(state):
    """What the eighths of a state are worth."""
    return [worth(one) for one in state.eighths()]


def turned_worth(own, turn):
    """A worth times w, so often: what comes to w ** 4 has come back with the other sign."""
    for _ in range(turn):
        own = (-own[3], own[0], own[1], own[2])
    return own


def gate_worths(word, wires, worths):
    """What comes of a gate, row by row, by the table."""
    rows = rows_of(many_of(worths))
    found = {row: NO_WORTH for row in rows}
    for row, own in zip(rows, worths):
        if own == NO_WORTH:
            continue
        for others, turn, roots in TABLE[word]["".join(row[wire] for wire in wires)]:
            to = list(row)
            for wire, bit in zip(wires, others):
                to[wire] = bit
            part = turned_worth(own, turn)
            if roots > 0:
                part = worth_over_root(part, roots)
            found["".join(to)] = sum_worth(found["".join(to)], part)
    return [found[row] for row in rows]


def read_worths(wire, bit, worths):
    """What a state has at the rows that have a bit at a wire, all else nought."""
    rows = rows_of(many_of(worths))
    return [own if row[wire] == bit else NO_WORTH for row, own in zip(rows, worths)]


def run_worths(told, worths):
    """The branches of a circuit by the texts of its rows: a dict from the bits read to worths."""
    names = []
    branches = {(): worths}
    for row in told:
        words = row.split(" ")
        if words[0] == "read":
            names.append(words[2])
            parted = {}
            for bits, own in branches.items():
                for bit in "01":
                    left = read_worths(int(words[1]), bit, own)
                    if any(part != NO_WORTH for part in left):
                        parted[bits + (int(bit),)] = left
            branches = parted
            continue
        asked = None
        if words[0] == "if":
            asked = (names.index(words[1]), int(words[2]))
            words = words[3:]
        wires = tuple(int(word) for word in words[1:])
        for bits in list(branches):
            if asked is None or bits[asked[0]] == asked[1]:
                branches[bits] = gate_worths(words[0], wires, branches[bits])
    return branches


def length_parts(worths):
    """The length of a state, as what it has of 1 and of root."""
    p, q = Fraction(0), Fraction(0)
    for a, b, c, d in worths:
        p += a * a + b * b + c * c + d * d
        q += a * b + b * c + c * d - d * a
    return (p, q)


def mirror_worth(parts):
    """The worth of the mirror."""
    a, b, c, d = parts
    return (a, -d, -c, -b)


def inside_worth(one, other):
    """The sum, row by row, of the first one's mirror times the other."""
    total = NO_WORTH
    for first, second in zip(one, other):
        total = sum_worth(total, product_worth(mirror_worth(first), second))
    return total


def wires_choices(many, count):
    """Each choice of so many unlike wires out of many, in every order."""
    return list(itertools.permutations(range(many), count))


def each_gate(many, words=tuple(TABLE)):
    """Each word with each choice of wires out of many."""
    return [(word, wires) for word in words for wires in wires_choices(many, WIRES_OF[word])]


def mixed_state(many, seed):
    """A state of eighths of mixed sizes, some of them nought."""
    found = some_eighths(seed, 8 + 2 ** many)[8:]
    chance = random.Random(seed)
    for at in range(len(found)):
        if chance.random() < 0.15:
            found[at] = NOUGHT
    return State(found)


def small_state(many, seed):
    """A state of small eighths, some of them nought."""
    chance = random.Random(seed)
    found = []
    for _ in range(2 ** many):
        numbers = [chance.randint(-2, 2) for _ in range(4)]
        found.append(eighth_told(*numbers, chance.randint(0, 3)) if chance.random() < 0.8 else NOUGHT)
    return State(found)


def row_state(many, row):
    """The state at a row, by its list of eighths."""
    return State([ONE if at == row else NOUGHT for at in range(2 ** many)])


def nought_state(many):
    """The state that is nought everywhere."""
    return State([NOUGHT] * 2 ** many)
