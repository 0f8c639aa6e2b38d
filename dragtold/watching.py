"""Watchers, which know what there is to know behind what was heard."""

from dragtold.errors import DragError
from dragtold.known import first_known, known_behind, verdict_of
from dragtold.signals import is_signal
from dragtold.ways import Ways

MOST_SIGNALS = 200


class Watcher:
    """What is known while signals are heard one by one, and forgotten."""

    def __init__(self, setup, troubles):
        self._ways = Ways(setup, troubles)
        self._known = first_known(self._ways)
        # Each signal with what was known ahead of it.
        self._heard = []

    def verdict(self):
        return verdict_of(self._known)

    def hear(self, signal):
        """Adds a signal, and tells the verdict then."""
        following = known_behind(self._ways, self._known)
        if not is_signal(signal) or signal not in following:
            raise DragError("not possible")
        if len(self._heard) >= MOST_SIGNALS:
            raise DragError("too many signals")
        self._heard.append((signal, self._known))
        self._known = following[signal]
        return self.verdict()

    def undo(self):
        """Forgets the last signal; False if there is none."""
        if len(self._heard) == 0:
            return False
        _, self._known = self._heard.pop()
        return True

    def signals(self):
        return [signal for signal, _ in self._heard]

    def known(self):
        """The list of the triples (over, last, rest), ascending."""
        return list(self._known)
