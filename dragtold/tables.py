"""Tables of listeners: where each signal leads from each state."""

from dragtold.setups import takes_signal
from dragtold.signals import all_signals


def table_of(listener):
    """For each signal, in order, the list of the states behind it, one for each state."""
    return {signal: states_behind(listener, signal) for signal in all_signals()}


def states_behind(listener, signal):
    states = list(range(listener.states))
    # From the last rule to the first one, which so has the last word.
    for rule in reversed(listener.rules):
        if takes_signal(rule, signal):
            source, following = rule[0], rule[5]
            if source is None:
                states = [following] * listener.states
            else:
                states[source] = following
    return states


def pair_table(one, other):
    """The table of two listeners at once: the place of a pair of states is that of pair_place."""
    tables, other_tables = table_of(one), table_of(other)
    return {
        signal: [pair_place(other, state, beside) for state in tables[signal] for beside in other_tables[signal]]
        for signal in tables
    }


def pair_place(other, state, beside):
    """The number of the pair of a state of some listener and one of the other listener."""
    return state * other.states + beside
