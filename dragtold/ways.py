"""Ways: where turns lead, with one setup and some troubles.

A turn is taken in two parts here, the changes and then the tick: many
situations lead to one situation by changes, and what its ticks come to
needs to be reckoned and gone over only once.
"""

from dragtold.scenarios import behind, drifted, turns_at
from dragtold.setups import Setup


class Ways:
    """Where turns lead; what was asked for is kept."""

    def __init__(self, setup, troubles):
        # Copies: the caller may change what was passed.
        self._setup = Setup(setup.place, setup.kinds, setup.sights)
        self._troubles = list(troubles)
        self._drifts = {}
        self._outcomes = {}

    def drifts(self, situation):
        """The list of the situations to which a situation leads by changes, ascending."""
        if situation not in self._drifts:
            self._drifts[situation] = sorted(drifted(situation, self._troubles))
        return self._drifts[situation]

    def outcomes(self, situation):
        """The list of what the ticks in a situation come to: triples (turn, situation behind, signals).

        Turns are ascending, and of those that come to the same the first one stands for all.
        """
        if situation not in self._outcomes:
            self._outcomes[situation] = self._outcomes_of(situation)
        return self._outcomes[situation]

    def _outcomes_of(self, situation):
        first_turns = {}
        for turn in sorted(turns_at(situation, self._troubles)):
            first_turns.setdefault(behind(self._setup, situation, turn), turn)
        return [(turn, *outcome) for outcome, turn in first_turns.items()]
