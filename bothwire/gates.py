"""Gates: each word has a class of its own, all of them under Gate."""

from bothwire.errors import NoGate
from bothwire.gatework import carried, check_word, text_of, unlike_wires


class Gate:
    """A gate, which never changes. There are none but those of the classes under this one."""

    def __init__(self):
        raise NoGate("a gate has a word")

    def word(self):
        """Its word."""

    def wires(self):
        """Its wires, a tuple."""

    def text(self):
        """Its word and its wires, a blank between."""

    def back(self):
        """The gate that undoes it."""

    def on(self, state):
        """The state behind it; NoState, then NoWire where the state has too few wires."""

    def is_bit(self):
        """Whether it is a bit gate."""

    def is_quarter(self):
        """Whether it is a quarter gate."""


class X(Gate):
    """`x a`: the row with bit a the other way."""

    def __init__(self, a):
        self._wires = unlike_wires((a,))

    def word(self):
        return "x"

    def wires(self):
        return self._wires

    def text(self):
        return text_of("x", self._wires)

    def back(self):
        return X(*self._wires)

    def on(self, state):
        return carried(state, self._wires, lambda a: [((1 - a,), 0, 0)])

    def is_bit(self):
        return True

    def is_quarter(self):
        return True


class Y(Gate):
    """`y a`: that row, turned by two eighths where bit a was 0, by six where it was 1."""

    def __init__(self, a):
        self._wires = unlike_wires((a,))

    def word(self):
        return "y"

    def wires(self):
        return self._wires

    def text(self):
        return text_of("y", self._wires)

    def back(self):
        return Y(*self._wires)

    def on(self, state):
        return carried(state, self._wires, lambda a: [((1 - a,), 2 + 4 * a, 0)])

    def is_bit(self):
        return False

    def is_quarter(self):
        return True


class Z(Gate):
    """`z a`: where bit a is 1 turned by four eighths."""

    def __init__(self, a):
        self._wires = unlike_wires((a,))

    def word(self):
        return "z"

    def wires(self):
        return self._wires

    def text(self):
        return text_of("z", self._wires)

    def back(self):
        return Z(*self._wires)

    def on(self, state):
        return carried(state, self._wires, lambda a: [((a,), 4 * a, 0)])

    def is_bit(self):
        return False

    def is_quarter(self):
        return True


class S(Gate):
    """`s a`: where bit a is 1 turned by two eighths."""

    def __init__(self, a):
        self._wires = unlike_wires((a,))

    def word(self):
        return "s"

    def wires(self):
        return self._wires

    def text(self):
        return text_of("s", self._wires)

    def back(self):
        return R(*self._wires)

    def on(self, state):
        return carried(state, self._wires, lambda a: [((a,), 2 * a, 0)])

    def is_bit(self):
        return False

    def is_quarter(self):
        return True


class R(Gate):
    """`r a`: where bit a is 1 turned by six eighths."""

    def __init__(self, a):
        self._wires = unlike_wires((a,))

    def word(self):
        return "r"

    def wires(self):
        return self._wires

    def text(self):
        return text_of("r", self._wires)

    def back(self):
        return S(*self._wires)

    def on(self, state):
        return carried(state, self._wires, lambda a: [((a,), 6 * a, 0)])

    def is_bit(self):
        return False

    def is_quarter(self):
        return True


class T(Gate):
    """`t a`: where bit a is 1 turned by an eighth."""

    def __init__(self, a):
        self._wires = unlike_wires((a,))

    def word(self):
        return "t"

    def wires(self):
        return self._wires

    def text(self):
        return text_of("t", self._wires)

    def back(self):
        return U(*self._wires)

    def on(self, state):
        return carried(state, self._wires, lambda a: [((a,), a, 0)])

    def is_bit(self):
        return False

    def is_quarter(self):
        return False


class U(Gate):
    """`u a`: where bit a is 1 turned by seven eighths."""

    def __init__(self, a):
        self._wires = unlike_wires((a,))

    def word(self):
        return "u"

    def wires(self):
        return self._wires

    def text(self):
        return text_of("u", self._wires)

    def back(self):
        return T(*self._wires)

    def on(self, state):
        return carried(state, self._wires, lambda a: [((a,), 7 * a, 0)])

    def is_bit(self):
        return False

    def is_quarter(self):
        return False


class H(Gate):
    """`h a`: both rows of bit a by root, that of 1 turned by four eighths where it was 1."""

    def __init__(self, a):
        self._wires = unlike_wires((a,))

    def word(self):
        return "h"

    def wires(self):
        return self._wires

    def text(self):
        return text_of("h", self._wires)

    def back(self):
        return H(*self._wires)

    def on(self, state):
        return carried(state, self._wires, lambda a: [((0,), 0, 1), ((1,), 4 * a, 1)])

    def is_bit(self):
        return False

    def is_quarter(self):
        return True


class Cx(Gate):
    """`cx a b`: where bit a is 1 the row with bit b the other way."""

    def __init__(self, a, b):
        self._wires = unlike_wires((a, b))

    def word(self):
        return "cx"

    def wires(self):
        return self._wires

    def text(self):
        return text_of("cx", self._wires)

    def back(self):
        return Cx(*self._wires)

    def on(self, state):
        return carried(state, self._wires, lambda a, b: [((a, b ^ a), 0, 0)])

    def is_bit(self):
        return True

    def is_quarter(self):
        return True


class Cz(Gate):
    """`cz a b`: where bits a and b are 1 turned by four eighths."""

    def __init__(self, a, b):
        self._wires = unlike_wires((a, b))

    def word(self):
        return "cz"

    def wires(self):
        return self._wires

    def text(self):
        return text_of("cz", self._wires)

    def back(self):
        return Cz(*self._wires)

    def on(self, state):
        return carried(state, self._wires, lambda a, b: [((a, b), 4 * a * b, 0)])

    def is_bit(self):
        return False

    def is_quarter(self):
        return True


class Swap(Gate):
    """`swap a b`: the row with bits a and b exchanged."""

    def __init__(self, a, b):
        self._wires = unlike_wires((a, b))

    def word(self):
        return "swap"

    def wires(self):
        return self._wires

    def text(self):
        return text_of("swap", self._wires)

    def back(self):
        return Swap(*self._wires)

    def on(self, state):
        return carried(state, self._wires, lambda a, b: [((b, a), 0, 0)])

    def is_bit(self):
        return True

    def is_quarter(self):
        return True


class Ccx(Gate):
    """`ccx a b c`: where bits a and b are 1 the row with bit c the other way."""

    def __init__(self, a, b, c):
        self._wires = unlike_wires((a, b, c))

    def word(self):
        return "ccx"

    def wires(self):
        return self._wires

    def text(self):
        return text_of("ccx", self._wires)

    def back(self):
        return Ccx(*self._wires)

    def on(self, state):
        return carried(state, self._wires, lambda a, b, c: [((a, b, c ^ a & b), 0, 0)])

    def is_bit(self):
        return True

    def is_quarter(self):
        return False


def gate_of(word, wires):
    """The gate of a word and a tuple of wires; NoGate, then NoWire."""
    check_word(word, wires)
    if word == "x":
        return X(*wires)
    if word == "y":
        return Y(*wires)
    if word == "z":
        return Z(*wires)
    if word == "s":
        return S(*wires)
    if word == "r":
        return R(*wires)
    if word == "t":
        return T(*wires)
    if word == "u":
        return U(*wires)
    if word == "h":
        return H(*wires)
    if word == "cx":
        return Cx(*wires)
    if word == "cz":
        return Cz(*wires)
    if word == "swap":
        return Swap(*wires)
    return Ccx(*wires)
