"""What a quarter gate makes of a sign row: the one that holds behind it what the row held ahead of it.

By each word a function takes the bits of a sign row at the gate's wires, for each wire the one of xs,
then the one of zs, and tells the bits that come in their place, and whether the row is turned.
"""


def _x(x, z):
    return [x, z], z


def _y(x, z):
    return [x, z], x ^ z


def _z(x, z):
    return [x, z], x


def _s(x, z):
    # x becomes y, and y becomes x, turned.
    return [x, z ^ x], x & z


def _r(x, z):
    # y becomes x, and x becomes y, turned.
    return [x, z ^ x], x & (1 - z)


def _h(x, z):
    return [z, x], x & z


def _cx(x, z, other_x, other_z):
    # An x goes on to the other wire, a z of the other wire comes to the first one.
    return [x, z ^ other_z, other_x ^ x, other_z], x & other_z & (1 - (other_x ^ z))


def _cz(x, z, other_x, other_z):
    # An x of either wire goes on to the other one as a z.
    return [x, z ^ other_x, other_x, other_z ^ x], x & other_x & (z ^ other_z)


def _swap(x, z, other_x, other_z):
    return [other_x, other_z, x, z], 0


MOVES = {
    "x": _x, "y": _y, "z": _z, "s": _s, "r": _r, "h": _h,
    "cx": _cx, "cz": _cz, "swap": _swap,
}


def moved(row, gate):
    """The sign row behind a quarter gate."""
    turn, xs, zs = row
    bits = []
    for wire in gate.wires():
        bits.extend([xs[wire], zs[wire]])
    move = MOVES[gate.word()]
    others, more = move(*bits)
    new_xs, new_zs = list(xs), list(zs)
    for at, wire in enumerate(gate.wires()):
        new_xs[wire] = others[2 * at]
        new_zs[wire] = others[2 * at + 1]
    return (turn ^ more, tuple(new_xs), tuple(new_zs))
