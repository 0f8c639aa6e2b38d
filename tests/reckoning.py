"""A plain second reckoning of what the searches of the program find, by the words of the document."""

from dragtold.scenarios import behind, turns
from dragtold.setups import next_state

KIND_ORDER = ["enter", "leave", "over", "drop", "end"]
SIDE_ORDER = ["outside", "inside", "zone"]
RELATED_ORDER = ["none", "outside", "inside"]
SIGNALS = [(kind, side, same, related) for kind in KIND_ORDER for side in SIDE_ORDER
           for same in (False, True) for related in RELATED_ORDER]


def is_hovered(situation):
    return situation[0] in (2, 3)


def state_behind(listener, state, signals):
    for signal in signals:
        state = next_state(listener, state, signal)
    return state


def order_of(row):
    """Rows of signals are compared by this."""
    return len(row), [SIGNALS.index(signal) for signal in row]


class Reckoning:
    """All turns of each situation, none left out."""

    def __init__(self, setup, troubles):
        self.setup, self.troubles = setup, troubles
        self.told = {}
        self.ever_heard = None

    def turns(self, situation):
        if situation not in self.told:
            self.told[situation] = [
                (turn, *behind(self.setup, situation, turn)) for turn in turns(situation, self.troubles)]
        return self.told[situation]

    def heard_in(self, scenario):
        situation, heard = (0, 0), []
        for turn in scenario:
            situation, signals = behind(self.setup, situation, turn)
            heard.extend(signals)
        return situation, tuple(heard)

    def first_scenario(self, hear, is_sought, length):
        """Of the scenarios of at most this length the first one to what is sought, as Python compares lists.

        hear(state, signals) tells the state behind signals, None if the scenario is of no interest then.
        """
        least = {((0, 0), 0): []}
        for _ in range(length + 1):
            sought = [scenario for pair, scenario in least.items() if is_sought(*pair)]
            if sought:
                return min(sought)
            longer = {}
            for (situation, state), scenario in least.items():
                for turn, following, signals in self.turns(situation):
                    state_now = hear(state, signals)
                    if state_now is not None:
                        pair = (following, state_now)
                        longer[pair] = min(longer.get(pair, scenario + [turn]), scenario + [turn])
            least = longer
        return None

    def reached(self, hear):
        """All pairs of a situation and a state that scenarios lead to."""
        found = {((0, 0), 0)}
        ahead = list(found)
        while ahead:
            situation, state = ahead.pop()
            for _, following, signals in self.turns(situation):
                pair = (following, hear(state, signals))
                if pair not in found:
                    found.add(pair)
                    ahead.append(pair)
        return found

    def known(self, row):
        """Point 20, for the whole row at once: a set of triples."""
        at_places = [set() for _ in range(len(row) + 1)]
        at_places[0].add((0, 0))
        triples = set()
        for at, situations in enumerate(at_places):
            ahead = list(situations)
            while ahead:
                for _, following, signals in self.turns(ahead.pop()):
                    end = at + len(signals)
                    if end <= len(row):
                        if row[at:end] == signals and following not in at_places[end]:
                            at_places[end].add(following)
                            if end == at:
                                ahead.append(following)
                    elif at < len(row) and signals[:len(row) - at] == row[at:]:
                        triples.add((*following, signals[len(row) - at:]))
        return triples | {(*situation, ()) for situation in at_places[-1]}

    def verdict(self, row):
        triples = self.known(row)
        if not triples:
            return None
        hovered = {is_hovered(triple) for triple in triples if triple[2] == ()}
        if not hovered:
            return "between"
        if len(hovered) == 2:
            return "either"
        return "hovered" if True in hovered else "free"

    def longer_rows(self, row):
        """The rows with one signal more that can be heard, in order."""
        if self.ever_heard is None:
            situations = [(over, last) for over in range(4) for last in range(5)]
            self.ever_heard = {signal for situation in situations if situation not in ((0, 4), (3, 3))
                               for _, _, signals in self.turns(situation) for signal in signals}
        return [row + (signal,) for signal in SIGNALS if signal in self.ever_heard and self.known(row + (signal,))]

    def first_doubt(self, length):
        """The first row of at most this length behind which there is doubt."""
        rows = [()]
        for _ in range(length + 1):
            for row in rows:
                if self.verdict(row) == "either":
                    return row
            rows = [longer for row in rows for longer in self.longer_rows(row)]
        return None

    def is_doubtful(self):
        """Whether two scenarios sound alike, one hovered and one not: by pairs of situations, one ahead of the other.

        A pair has what is still to be heard of the second one, so that they sound alike.
        """
        found = {((0, 0), (0, 0), ())}
        ahead = list(found)
        while ahead:
            one, other, rest = ahead.pop()
            if rest == () and is_hovered(one) != is_hovered(other):
                return True
            for _, following, signals in self.turns(one):
                short = min(len(signals), len(rest))
                if signals[:short] != rest[:short]:
                    continue
                if len(signals) <= len(rest):
                    pair = (following, other, rest[len(signals):])
                else:
                    pair = (other, following, signals[len(rest):])
                for each in [pair] if pair[2] else [pair, (pair[1], pair[0], ())]:
                    if each not in found:
                        found.add(each)
                        ahead.append(each)
        return False
