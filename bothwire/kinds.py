"""Kinds of things that are handed in: numbers within bounds, names, rows of words."""

from bothwire.numbers import is_number

MOST_WIRES = 5


def is_within(thing, low, high):
    """Whether a thing is a whole number from low to high."""
    return is_number(thing) and low <= thing <= high


def is_name(thing):
    """Whether a thing is a name: 1 to 8 small letters."""
    if not isinstance(thing, str) or not 1 <= len(thing) <= 8:
        return False
    return all(["a" <= sign <= "z" for sign in thing])


def words_of(row):
    """The words of a row, parted by one blank or more, a list."""
    return [word for word in row.split(" ") if word != ""]
