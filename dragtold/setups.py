"""Setups, which say what is heard, and listeners, the tables of states that hear it."""

from dragtold.checks import is_number, is_number_below, is_word
from dragtold.errors import DragError

PLACES = ("zone", "root", "capture")
KINDS = ("enter", "leave", "over", "drop", "end")
SIGHTS = ("own", "same", "related")
SIDES = ("outside", "inside", "zone")
RELATED_SIDES = ("none", "outside", "inside")
MOST_STATES = 60
MOST_RULES = 1200

# Of each sample the number of its states, and its rules ahead of the common ones.
SAMPLES = {
    "simple": (
        2,
        (None, "enter", None, None, None, 1),
        (None, "leave", None, None, None, 0),
    ),
    "counting": (
        3,
        (0, "enter", None, None, None, 1),
        (1, "enter", None, None, None, 2),
        (2, "leave", None, None, None, 1),
        (1, "leave", None, None, None, 0),
    ),
    "latest": (
        2,
        (None, "enter", "outside", None, None, 0),
        (None, "enter", None, None, None, 1),
        (None, "leave", None, True, None, 0),
    ),
    "over": (
        2,
        (None, "over", "outside", None, None, 0),
        (None, "over", None, None, None, 1),
        (None, "leave", None, None, None, 0),
    ),
    "related": (
        2,
        (None, "enter", None, None, None, 1),
        (1, "leave", None, None, "inside", 1),
        (None, "leave", None, None, None, 0),
    ),
}
COMMON_RULES = (
    (None, "drop", None, None, None, 0),
    (None, "end", None, None, None, 0),
)


class Setup:
    """Where is listened, which kinds of events are heard, and what is seen of them."""

    def __init__(self, place, kinds, sights):
        if not (is_word(place, PLACES) and is_choice(kinds, KINDS) and is_choice(sights, SIGHTS)):
            raise DragError("no setup")
        self.place = place
        self.kinds = in_order(kinds, KINDS)
        self.sights = in_order(sights, SIGHTS)


class Listener:
    """A table of states; it begins in the state 0."""

    def __init__(self, states, on, rules):
        if not (is_number(states) and 1 <= states <= MOST_STATES):
            raise DragError("no listener")
        if not (are_states(on, states) and are_rules(rules, states)):
            raise DragError("no listener")
        self.states = states
        self.on = sorted(on)
        self.rules = list(rules)


def is_choice(chosen, words):
    """Whether these are some of the words, none twice, in any order."""
    if not isinstance(chosen, (list, tuple)):
        return False
    if not all(is_word(word, words) for word in chosen):
        return False
    return len(set(chosen)) == len(chosen)


def in_order(chosen, words):
    return tuple([word for word in words if word in chosen])


def are_states(on, states):
    """Whether this is a list of states, none twice, in any order."""
    if not isinstance(on, list):
        return False
    if not all(is_number_below(state, states) for state in on):
        return False
    return len(set(on)) == len(on)


def are_rules(rules, states):
    if not isinstance(rules, list) or len(rules) > MOST_RULES:
        return False
    return all(is_rule(rule, states) for rule in rules)


def is_rule(rule, states):
    if not (isinstance(rule, tuple) and len(rule) == 6):
        return False
    source, kind, side, same, related, following = rule
    return (
        (source is None or is_number_below(source, states))
        and (kind is None or is_word(kind, KINDS))
        and (side is None or is_word(side, SIDES))
        and (same is None or isinstance(same, bool))
        and (related is None or is_word(related, RELATED_SIDES))
        and is_number_below(following, states)
    )


def sample(name):
    """A new listener, the sample of this name."""
    states, *rules = SAMPLES[name]
    return Listener(states, list(range(1, states)), [*rules, *COMMON_RULES])


def next_state(listener, state, signal):
    """The state behind a signal that is heard in a state."""
    for rule in listener.rules:
        if applies(rule, state, signal):
            return rule[5]
    return state


def applies(rule, state, signal):
    return (rule[0] is None or rule[0] == state) and takes_signal(rule, signal)


def takes_signal(rule, signal):
    """Whether a rule applies to a signal in the states from which it leads."""
    _, kind, side, same, related, _ = rule
    heard_kind, heard_side, heard_same, heard_related = signal
    return (
        (kind is None or kind == heard_kind)
        and (side is None or side == heard_side)
        and (same is None or same == heard_same)
        and (related is None or related == heard_related)
    )
