"""Searches over scenarios: where they lead, together with what hears their signals."""

FIRST_PAIR = ((0, 0), 0)


class Search:
    """A search, in the order of scenarios, over the pairs (situation, place) that they lead to.

    A place is a number for what has come of the signals: the state of a
    listener, the states of two, or how much of a row was heard; 0 at first.
    The table has for each signal the list of the places behind it, one for
    each place. An object serves for one search.
    """

    def __init__(self, ways, table, places):
        self._ways = ways
        self._table = table
        self._places = places
        self._edges = {}
        self._moves = {}
        self._passed = {}
        # For each pair that was found, in order, the pair before it and the turn between them.
        self._came = {FIRST_PAIR: None}

    def first_scenario(self, is_sought):
        """The first scenario to a pair for which is_sought(situation, place) holds, None if there is none."""
        found = self._explore(is_sought)
        return None if found is None else self._scenario_to(found)

    def all_pairs(self, is_sought):
        """The list of all pairs that scenarios lead to, None if one of them is sought."""
        found = self._explore(is_sought)
        return list(self._came) if found is None else None

    def is_closed(self, pairs):
        """Whether each turn leads from each of some pairs, the keys of a dict, to one of them."""
        for situation, place in pairs:
            for _, following in self._steps(situation, place):
                if following not in pairs:
                    return False
        return True

    def _explore(self, is_sought):
        row = [FIRST_PAIR]
        while row:
            for situation, place in row:
                if is_sought(situation, place):
                    return (situation, place)
            row = self._row_behind(row)
        return None

    def _row_behind(self, row):
        """The pairs that are found behind those of a row, in the order of their first scenarios."""
        found = []
        for pair in row:
            for turn, following in self._steps(*pair):
                if following not in self._came:
                    self._came[following] = (pair, turn)
                    found.append(following)
        return found

    def _steps(self, situation, place):
        """The tuples (turn, pair behind it), turns ascending, but those that an earlier call told in another pair."""
        steps = []
        for drifted in self._ways.drifts(situation):
            # The ticks behind the changes lead where they led before: nothing is found there again.
            if (drifted, place) not in self._passed:
                self._passed[(drifted, place)] = True
                steps.extend([(turn, (behind, moves[place])) for turn, behind, moves in self._edges_at(drifted)])
        return steps

    def _edges_at(self, situation):
        """For each outcome in a situation the turn, the situation behind it, and the places behind it."""
        if situation not in self._edges:
            outcomes = self._ways.outcomes(situation)
            self._edges[situation] = [(turn, behind, self._moves_by(signals)) for turn, behind, signals in outcomes]
        return self._edges[situation]

    def _moves_by(self, signals):
        """For each place the one behind some signals."""
        if signals not in self._moves:
            places = list(range(self._places))
            for signal in signals:
                following = self._table[signal]
                places = [following[place] for place in places]
            self._moves[signals] = places
        return self._moves[signals]

    def _scenario_to(self, pair):
        turns = []
        while self._came[pair] is not None:
            pair, turn = self._came[pair]
            turns.append(turn)
        return turns[::-1]
