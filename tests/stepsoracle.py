"""What steps make of circuits, by the words of promises 20 to 22 alone.

A gate is here a pair (word, wires), a circuit a list of these.
"""

# By two words of one wire, in whatever order: the word that they come to, "" where they come to nothing.
COME_TO = {
    "x x": "", "y y": "", "z z": "", "x y": "z", "x z": "y", "y z": "x", "h h": "",
    "s z": "r", "r z": "s", "s s": "z", "r s": "", "s u": "t", "r r": "z", "r t": "u", "t t": "s", "t u": "", "u u": "r",
}

BETWEEN_TWO_H = {"x": "z", "y": "y", "z": "x"}


def pairs_of(circuit):
    """The gates of a circuit as pairs."""
    return [(gate.word(), gate.wires()) for gate in circuit.rows()]


def texts_of(gates):
    """The texts of gates, a tuple."""
    return tuple(" ".join([word] + [str(wire) for wire in wires]) for word, wires in gates)


def goes_by(one, other):
    """Whether two gates have no wire in common."""
    return not set(one[1]) & set(other[1])


def meet(gates, i, j):
    """Whether each gate between goes by gate i."""
    return all(goes_by(gates[i], gate) for gate in gates[i + 1:j])


def come_to(one, other):
    """What two gates come to: a list of one gate or none; None where no line of the table tells it."""
    word, wires = one
    if len(wires) == 1:
        key = " ".join(sorted([word, other[0]]))
        if wires != other[1] or key not in COME_TO:
            return None
        return [(COME_TO[key], wires)] if COME_TO[key] else []
    if word != other[0]:
        return None
    fine = {
        "cx": wires == other[1],
        "cz": set(wires) == set(other[1]),
        "swap": set(wires) == set(other[1]),
        "ccx": set(wires) == set(other[1]) and wires[-1] == other[1][-1],
    }
    return [] if fine[word] else None


def behind_two(gates, i, j):
    """The gates behind the step (i, j); None where it can't be done."""
    if not 0 <= i < j < len(gates) or not meet(gates, i, j):
        return None
    came = come_to(gates[i], gates[j])
    return None if came is None else gates[:i] + gates[i + 1:j] + came + gates[j + 1:]


def behind_three(gates, i, j, k):
    """The gates behind the step (i, j, k); None where it can't be done."""
    if not 0 <= i < j < k < len(gates) or not meet(gates, i, j) or not meet(gates, j, k):
        return None
    word, wires = gates[j]
    if gates[i] != ("h", wires) or gates[k] != ("h", wires) or word not in BETWEEN_TWO_H:
        return None
    return gates[:i] + gates[i + 1:j] + [(BETWEEN_TWO_H[word], wires)] + gates[j + 1:k] + gates[k + 1:]


def behind(gates, step):
    """The gates behind a step of two or three numbers; None where it can't be done."""
    return behind_two(gates, *step) if len(step) == 2 else behind_three(gates, *step)


def all_steps(gates):
    """Each step that can be done, in order."""
    many = len(gates)
    found = [(i, j) for j in range(many) for i in range(j)]
    found += [(i, j, k) for k in range(many) for j in range(k) for i in range(j)]
    return sorted(step for step in found if behind(gates, step) is not None)


def shortened_gates(gates):
    """The gates once no step can be done any more, and the steps."""
    steps = []
    while all_steps(gates):
        steps.append(min(all_steps(gates)))
        gates = behind(gates, steps[-1])
    return gates, steps
