"""The words a, b, .., z, aa, ab, .., as names of streets that are made here."""

_LETTERS = "abcdefghijklmnopqrstuvwxyz"


def word_at(number):
    """Return the word at a position of a, b, .., z, aa, ab, ..; shorter ones come first."""
    word = _LETTERS[number % 26]
    while number >= 26:
        number = number // 26 - 1
        word = _LETTERS[number % 26] + word
    return word
