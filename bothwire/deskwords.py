"""Words of the desk: what they mean, and the words of what it tells."""

BITS_BY_LETTER = {"i": (0, 0), "x": (1, 0), "y": (1, 1), "z": (0, 1)}
LETTER_BY_BITS = {(0, 0): "i", (1, 0): "x", (1, 1): "y", (0, 1): "z"}


def number_meant(word):
    """The number that one figure tells, or two without a nought ahead; None of another word."""
    if len(word) > 2 or not all(["0" <= sign <= "9" for sign in word]):
        return None
    if len(word) == 2 and word[0] == "0":
        return None
    return int(word)


def bits_meant(word):
    """The tuple of bits that a word of 0 and 1 tells, or - for none; None of another word."""
    if word == "-":
        return ()
    if not all([sign in ("0", "1") for sign in word]):
        return None
    return tuple([int(sign) for sign in word])


def sign_row_meant(word):
    """The sign row of 1 to 5 wires that a + or -, then letters tell; None of another word."""
    letters = word[1:]
    if word[0] not in ("+", "-") or not 1 <= len(letters) <= 5:
        return None
    if not all([letter in BITS_BY_LETTER for letter in letters]):
        return None
    turn = 1 if word[0] == "-" else 0
    pairs = [BITS_BY_LETTER[letter] for letter in letters]
    return (turn, tuple([x for x, _ in pairs]), tuple([z for _, z in pairs]))


def bits_word(bits):
    """The word of a tuple of bits: - of none."""
    if len(bits) == 0:
        return "-"
    return "".join([str(bit) for bit in bits])


def sign_row_word(row):
    """The word of a sign row."""
    turn, xs, zs = row
    sign = "-" if turn == 1 else "+"
    return sign + "".join([LETTER_BY_BITS[pair] for pair in zip(xs, zs)])
