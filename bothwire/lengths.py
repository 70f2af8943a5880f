"""Lengths: real numbers (p + q root) / 2 ** k, told as (p, q, k) with the least k from 0 on."""

from bothwire.numbers import twos_of


def square(one):
    """The square of an eighth, which is the eighth times its mirror: a length."""
    a, b, c, d, k = one
    # Of w ** 3 there is as much as of w with the other sign, and of w ** 2 nothing is left:
    # what is told of w tells how many times root there is.
    return _least(a * a + b * b + c * c + d * d, a * b + b * c + c * d - d * a, k)


def length_sum(lengths):
    """The sum of a list of lengths: that of no length is nought."""
    k = max([one[2] for one in lengths], default=0)
    return _least(
        sum([p << (k - own) for p, q, own in lengths]),
        sum([q << (k - own) for p, q, own in lengths]),
        k,
    )


def is_less(one, other):
    """Whether one length is less than the other."""
    p, q, k = one
    p, q, _ = length_sum([other, (-p, -q, k)])
    return _is_above_nought(p, q)


def length_text(one):
    """A length as text, as 2+1r/4: r stands for root."""
    p, q, k = one
    if p == 0 and q == 0:
        return "0"
    text = ""
    if p != 0:
        text = _figures(p)
    if q != 0:
        sign = "+" if p != 0 and q > 0 else ""
        text = f"{text}{sign}{_figures(q)}r"
    if k > 0:
        text = f"{text}/{_figures(1 << k)}"
    return text


def _least(p, q, k):
    """The length (p + q root) / 2 ** k, with its least k from 0 on."""
    together = p | q
    if together == 0:
        return (0, 0, 0)
    twos = min(twos_of(together), k)
    return (p >> twos, q >> twos, k - twos)


def _is_above_nought(p, q):
    """Whether p + q root is above nought."""
    # A square that keeps its number's sign keeps the order, too, and root is gone from it.
    return p * abs(p) + 2 * q * abs(q) > 0


def _figures(number):
    """A number in figures, with a - ahead where it is below nought."""
    if number < 0:
        return "-" + _figures(-number)
    # Python's own str refuses numbers of more than 4300 figures, so it is asked for few at a time.
    pieces = []
    while number >= 10 ** 64:
        number, last = divmod(number, 10 ** 64)
        pieces.append(str(last).zfill(64))
    pieces.append(str(number))
    return "".join(reversed(pieces))
