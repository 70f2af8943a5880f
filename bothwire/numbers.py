"""Numbers of eighths: (a + b w + c w w + d w w w) / root ** k, told as (a, b, c, d, k).

Here w is an eighth of a whole turn, so that w ** 4 is -1, and root is w - w ** 3, the
root of two. Each such number is told with the least k that it can have.
"""

from bothwire.errors import NoNumber

NOUGHT = (0, 0, 0, 0, 0)
ONE = (1, 0, 0, 0, 0)


def is_number(thing):
    """Whether a thing is a whole number; True and False are none."""
    return isinstance(thing, int) and not isinstance(thing, bool)


def twos_of(number):
    """How many times a number that is not nought can be halved."""
    return (number & -number).bit_length() - 1


def lowest(a, b, c, d, k):
    """The eighth of these numbers, with its least k."""
    together = a | b | c | d
    if together == 0:
        return (0, 0, 0, 0, 0)
    # A two is two roots, so all twos in common go at once. No more than one root can be left
    # behind that, as two of them would be one more two.
    twos = min(twos_of(together), k // 2)
    a, b, c, d, k = a >> twos, b >> twos, c >> twos, d >> twos, k - 2 * twos
    if k > 0 and _has_root(a, b, c, d):
        # One over root is root over two.
        a, b, c, d = _times_root(a, b, c, d)
        return (a // 2, b // 2, c // 2, d // 2, k - 1)
    return (a, b, c, d, k)


def is_eighth(thing):
    """Whether a thing is an eighth, as told: a tuple of five numbers with the least k."""
    if not isinstance(thing, tuple) or len(thing) != 5:
        return False
    if not all([is_number(part) for part in thing]):
        return False
    a, b, c, d, k = thing
    return k >= 0 and (a, b, c, d, k) == lowest(a, b, c, d, k)


def plus(one, other):
    """The sum of two eighths."""
    k = max(one[4], other[4])
    a, b, c, d = _raised(one, k)
    e, f, g, h = _raised(other, k)
    return lowest(a + e, b + f, c + g, d + h, k)


def times(one, other):
    """The product of two eighths."""
    a, b, c, d, k = one
    e, f, g, h, m = other
    # What comes to w ** 4 and beyond has come back with the other sign.
    return lowest(
        a * e - b * h - c * g - d * f,
        a * f + b * e - c * h - d * g,
        a * g + b * f + c * e - d * h,
        a * h + b * g + c * f + d * e,
        k + m,
    )


def mirror(one):
    """The mirror of an eighth: w ** 7 stands in the place of w."""
    a, b, c, d, k = one
    return (a, -d, -c, -b, k)


def turned(one, many):
    """An eighth times w ** many."""
    if not is_number(many):
        raise NoNumber("an eighth is turned by a whole number")
    a, b, c, d, k = one
    for _ in range(many % 8):
        a, b, c, d = -d, a, b, c
    return (a, b, c, d, k)


def over_root(one, many):
    """An eighth by root ** many."""
    if not is_number(many) or many < 0:
        raise NoNumber("an eighth is parted by root as many times as a whole number from 0 on tells")
    a, b, c, d, k = one
    return lowest(a, b, c, d, k + many)


def _has_root(a, b, c, d):
    """Whether a + b w + c w w + d w w w is root times whole numbers."""
    return (a + c) % 2 == 0 and (b + d) % 2 == 0


def _times_root(a, b, c, d):
    """The four numbers of a + b w + c w w + d w w w times root."""
    return (b - d, a + c, b + d, c - a)


def _raised(one, k):
    """The four numbers that an eighth has over root ** k, k being no less than its own."""
    a, b, c, d, own = one
    twos = (k - own) // 2
    a, b, c, d = a << twos, b << twos, c << twos, d << twos
    if (k - own) % 2 == 1:
        return _times_root(a, b, c, d)
    return (a, b, c, d)
