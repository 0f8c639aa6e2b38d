"""Signals, which are what is heard of events, and their order."""

from dragtold.checks import is_word
from dragtold.setups import KINDS, RELATED_SIDES, SIDES


def all_signals():
    """The list of the 90 signals, in order."""
    return [
        (kind, side, same, related)
        for kind in KINDS
        for side in SIDES
        for same in (False, True)
        for related in RELATED_SIDES
    ]


def is_signal(value):
    if not (isinstance(value, tuple) and len(value) == 4):
        return False
    kind, side, same, related = value
    # Python takes False for equal to 0, the document does not.
    return is_word(kind, KINDS) and is_word(side, SIDES) and isinstance(same, bool) and is_word(related, RELATED_SIDES)


def rank_of(signal):
    """What signals are compared by in their order."""
    kind, side, same, related = signal
    return (KINDS.index(kind), SIDES.index(side), same, RELATED_SIDES.index(related))
