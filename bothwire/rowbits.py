"""Rows as numbers and as bits: wire 0 is the bit that is worth most."""


def bits_of(many, row):
    """The bits of a row of so many wires, a tuple."""
    return tuple([row >> (many - 1 - wire) & 1 for wire in range(many)])


def row_of(bits):
    """The row of these bits, a number."""
    row = 0
    for bit in bits:
        row = 2 * row + bit
    return row
