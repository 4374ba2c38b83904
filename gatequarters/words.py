"""The words a, b, .., z, aa, ab, .., as names of streets and crossings that are made here."""

_LETTERS = "abcdefghijklmnopqrstuvwxyz"


def word_at(number):
    """Return the word at a position of a, b, .., z, aa, ab, ..; shorter ones come first."""
    word = _LETTERS[number % 26]
    while number >= 26:
        number = number // 26 - 1
        word = _LETTERS[number % 26] + word
    return word


def free_words(taken, many):
    """Return the first so many of the words that are none of some."""
    # Of so many words, at least as many as are wanted are not taken.
    words = [word_at(number) for number in range(len(taken) + many)]
    return [word for word in words if word not in taken][:many]
