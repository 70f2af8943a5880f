"""What gates that meet come to: a list of one gate, of none for nothing, or None where no rule tells it."""

from bothwire.gates import gate_of

# By how many eighths of a turn a gate turns where its bit is 1, and the other way about.
TURN_OF = {"z": 4, "s": 2, "r": 6, "t": 1, "u": 7}
WORD_OF = {4: "z", 2: "s", 6: "r", 1: "t", 7: "u"}

# Of two unlike ones of x, y and z: the third.
THIRD_OF = {
    ("x", "y"): "z", ("y", "x"): "z", ("x", "z"): "y", ("z", "x"): "y", ("y", "z"): "x", ("z", "y"): "x",
}

# By what stands between two h of one wire: what all three come to.
BETWEEN_TWO_H = {"x": "z", "z": "x", "y": "y"}


def two_come_to(one, other):
    """What two gates come to, the one ahead of the other."""
    if sorted(one.wires()) != sorted(other.wires()):
        return None
    words = (one.word(), other.word())
    if words in THIRD_OF:
        return [gate_of(THIRD_OF[words], one.wires())]
    if words[0] in TURN_OF and words[1] in TURN_OF:
        return _turns_added(words, one.wires())
    if words[0] == words[1] and _come_to_nothing(one, other):
        return []
    return None


def three_come_to(one, middle, other):
    """What three gates come to, of which each has a wire in common with the next one."""
    if one.word() != "h" or other.word() != "h" or middle.word() not in BETWEEN_TWO_H:
        return None
    # All of these words have one wire: it is the same one, as they have it in common.
    return [gate_of(BETWEEN_TWO_H[middle.word()], middle.wires())]


def _turns_added(words, wires):
    """What two gates come to that turn where their bit is 1."""
    turn = (TURN_OF[words[0]] + TURN_OF[words[1]]) % 8
    if turn == 0:
        return []
    if turn not in WORD_OF:
        return None
    return [gate_of(WORD_OF[turn], wires)]


def _come_to_nothing(one, other):
    """Whether two gates of one word and the same wires come to nothing; each of these undoes itself."""
    if one.word() == "cx":
        return one.wires() == other.wires()
    if one.word() == "ccx":
        return one.wires()[2] == other.wires()[2]
    # Of cz and swap the order of the wires tells nothing.
    return True
