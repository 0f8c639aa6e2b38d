"""Checks of plain values that were passed."""


def is_number(value):
    """Whether a value is an integer from 0 on."""
    # Python takes True and False for integers, the document does not.
    return isinstance(value, int) and not isinstance(value, bool) and value >= 0


def is_number_below(value, bound):
    return is_number(value) and value < bound


def is_word(value, words):
    return isinstance(value, str) and value in words
