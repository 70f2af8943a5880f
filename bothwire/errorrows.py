"""Errors: sign rows that do not turn."""

from bothwire.rowbits import bits_of
from bothwire.signs import is_sign_row


def is_error(thing, many):
    """Whether a thing is an error of so many wires."""
    return is_sign_row(thing) and thing[0] == 0 and len(thing[1]) == many


def each_error(many):
    """All errors of so many wires, as tuples are ordered."""
    found = [bits_of(2 * many, at) for at in range(1 << 2 * many)]
    return [(0, bits[:many], bits[many:]) for bits in found]


def size_of(error):
    """At how many wires an error does something."""
    _, xs, zs = error
    return sum([x | z for x, z in zip(xs, zs)])
