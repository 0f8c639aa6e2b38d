"""Surveys: all that is known behind rows of signals."""

from dragtold.known import first_known, known_behind, verdict_of


class Survey:
    """What is known behind the rows that can be heard, up to the first one behind which there is doubt.

    - rows: for all that is known, in the order in which it is found, the first row behind which it is.
    - leads: the tuples (known, signal, known behind it), in order; all of them if there is no doubt.
    - doubt: the first row behind which there is doubt, None if there is none.
    """

    def __init__(self, ways):
        start = first_known(ways)
        self.rows = {start: ()}
        self.leads = []
        self.doubt = () if verdict_of(start) == "either" else None
        ahead = [start]
        while ahead and self.doubt is None:
            ahead = self._found_behind(ways, ahead)

    def _found_behind(self, ways, ahead):
        """What is found behind a list of what is known."""
        found = []
        for known in ahead:
            for signal, following in known_behind(ways, known).items():
                self.leads.append((known, signal, following))
                if following not in self.rows:
                    self.rows[following] = (*self.rows[known], signal)
                    found.append(following)
                    if verdict_of(following) == "either":
                        self.doubt = self.rows[following]
                        return []
        return found
