"""What is known behind rows of signals.

It is a tuple of triples (over, last, rest), ascending, so that what is
equally known is an equal value, and a key of dicts.
"""

from dragtold.scenarios import FIRST_SITUATION, is_hovered_in
from dragtold.signals import rank_of


def first_known(ways):
    """What is known behind the empty row."""
    return settled(ways, {(*FIRST_SITUATION, ()): True})


def known_behind(ways, known):
    """For each signal that can be heard next, in order, what is known then."""
    heard = {}
    for over, last, rest in known:
        if rest:
            triples = heard.setdefault(rest[0], {})
            triples[(over, last, rest[1:])] = True
    for situation in drifted_from(ways, known):
        for _, behind, signals in ways.outcomes(situation):
            if signals:
                triples = heard.setdefault(signals[0], {})
                triple = (*behind, signals[1:])
                triples[triple] = True
    return {signal: settled(ways, heard[signal]) for signal in sorted(heard, key=rank_of)}


def settled(ways, triples):
    """What is known, if these triples and the silent turns behind them are all there is."""
    found = {triple: True for triple in triples}
    row = list(triples)
    while row:
        longer = []
        for situation in drifted_from(ways, row):
            for _, behind, signals in ways.outcomes(situation):
                triple = (*behind, ())
                if not signals and triple not in found:
                    found[triple] = True
                    longer.append(triple)
        row = longer
    return tuple(sorted(found))


def drifted_from(ways, triples):
    """The situations to which changes lead from those of the triples with nothing to come, none twice."""
    found = {}
    for over, last, rest in triples:
        if not rest:
            for situation in ways.drifts((over, last)):
                found[situation] = True
    return list(found)


def verdict_of(known):
    """The verdict behind a row that can be heard."""
    hovered = [is_hovered_in((over, last)) for over, last, rest in known if not rest]
    if not hovered:
        return "between"
    if all(hovered):
        return "hovered"
    return "either" if any(hovered) else "free"
