"""What sign rows and tables come to, reckoned in another way than the program does.

A sign row is done here wire by wire, by the table of the gates x, y and z.
"""

import itertools
import random

from tests.stateoracle import gate_worths, turned_worth

WORDS = {(0, 0): None, (1, 0): "x", (0, 1): "z", (1, 1): "y"}


def turned_worths(worths, turn):
    """Worths, each times w ** turn."""
    return [turned_worth(own, turn) for own in worths]


def done_worths(row, worths):
    """What comes of doing a sign row: x, y, z or nothing at each wire, and the turn."""
    turn, xs, zs = row
    for wire, bits in enumerate(zip(xs, zs)):
        if WORDS[bits] is not None:
            worths = gate_worths(WORDS[bits], (wire,), worths)
    return turned_worths(worths, 4 * turn)


def bits_choices(many):
    """Each tuple of so many bits."""
    return list(itertools.product((0, 1), repeat=many))


def each_sign_row(many):
    """Each sign row of so many wires."""
    return [(turn, xs, zs) for turn in (0, 1) for xs in bits_choices(many) for zs in bits_choices(many)]


def some_sign_row(chance, many):
    """A sign row of so many wires."""
    xs = tuple(chance.randrange(2) for _ in range(many))
    zs = tuple(chance.randrange(2) for _ in range(many))
    return (chance.randrange(2), xs, zs)


def some_sign_rows(seed, many, count):
    """Sign rows of so many wires, those that do nothing among them."""
    chance = random.Random(seed)
    none = (0,) * many
    return [(0, none, none), (1, none, none)] + [some_sign_row(chance, many) for _ in range(count)]


def holding_rows(worths, many):
    """All sign rows that hold a state."""
    return [row for row in each_sign_row(many) if done_worths(row, worths) == worths]


def told_rows(rows):
    """Of all products of a table's rows, itself among them, those that are told of it."""
    leads = sorted({first_place(row) for row in rows} - {None})
    found = []
    for lead in leads:
        fitting = [row for row in rows if first_place(row) == lead and clear_of(row, lead, leads)]
        assert len(fitting) == 1
        found.append(fitting[0])
    return found


def first_place(row):
    """The place of the first bit that is 1, by xs, then zs."""
    bits = row[1] + row[2]
    return bits.index(1) if 1 in bits else None


def clear_of(row, lead, leads):
    """Whether a row has 0 at all these places but its own one."""
    bits = row[1] + row[2]
    return all(bits[place] == 0 for place in leads if place != lead)
