"""Sign rows: tuples (turn, xs, zs), which do x, y, z or nothing at each wire, and turn by four eighths or not."""

from bothwire.errors import NoState, NoTable
from bothwire.kinds import MOST_WIRES, is_within
from bothwire.numbers import NOUGHT, turned
from bothwire.rowbits import bits_of, row_of
from bothwire.states import State, is_state


def is_sign_row(thing):
    """Whether a thing is a sign row of 1 to 5 wires."""
    if not isinstance(thing, tuple) or len(thing) != 3:
        return False
    turn, xs, zs = thing
    return is_within(turn, 0, 1) and _is_bits(xs) and _is_bits(zs) and len(xs) == len(zs)


def done(row, state):
    """The state behind a sign row; NoTable, then NoState."""
    if not is_sign_row(row):
        raise NoTable("what is done is a sign row")
    turn, xs, zs = row
    many = len(xs)
    if not is_state(state, many):
        raise NoState("a sign row is done on a state of as many wires")
    flips = row_of(xs)
    # Where y is done it turns by two eighths at a bit of 0, and at one of 1, as z does, by four more.
    turns = 4 * turn + 2 * _overlap(xs, zs)
    found = [NOUGHT] * (1 << many)
    for at, eighth in enumerate(state.eighths()):
        found[at ^ flips] = turned(eighth, turns + 4 * _overlap(zs, bits_of(many, at)))
    return State(found)


def goes_with(one, other):
    """Whether two sign rows of as many wires go together."""
    _check_pair(one, other)
    _, xs, zs = one
    _, other_xs, other_zs = other
    return (_overlap(xs, other_zs) + _overlap(zs, other_xs)) % 2 == 0


def product(one, other):
    """The pair (m, row): doing the other, then the one, is doing row, and all eighths times w ** (2 m)."""
    _check_pair(one, other)
    turn, xs, zs = one
    other_turn, other_xs, other_zs = other
    both_xs, both_zs = _unlike(xs, other_xs), _unlike(zs, other_zs)
    # A sign row is first z at all wires of zs, then x at all of xs, with two eighths of a turn for
    # each y. To have the z of both ahead of the x of both, those of the one are put ahead of the x
    # of the other: four eighths for each wire with both.
    m = 2 * (turn + other_turn + _overlap(zs, other_xs))
    m = m + _overlap(xs, zs) + _overlap(other_xs, other_zs) - _overlap(both_xs, both_zs)
    return (m % 4, (0, both_xs, both_zs))


def _is_bits(thing):
    """Whether a thing is a tuple of 1 to 5 bits."""
    if not isinstance(thing, tuple) or not 1 <= len(thing) <= MOST_WIRES:
        return False
    return all([is_within(bit, 0, 1) for bit in thing])


def _check_pair(one, other):
    """NoTable of what are no two sign rows of as many wires."""
    if not is_sign_row(one) or not is_sign_row(other) or len(one[1]) != len(other[1]):
        raise NoTable("these are no two sign rows of as many wires")


def _overlap(one, other):
    """How many places have a 1 in both tuples of bits."""
    return sum([bit * other_bit for bit, other_bit in zip(one, other)])


def _unlike(one, other):
    """A tuple with a 1 where two tuples of bits are unlike."""
    return tuple([bit ^ other_bit for bit, other_bit in zip(one, other)])
