"""Whether listeners are right, what they differ in, and the least ones that do the same."""

from dragtold.checks import is_number, is_number_below
from dragtold.errors import DragError
from dragtold.merging import classes_of, first_members
from dragtold.scenarios import behind_all, is_hovered_in, is_scenario, is_situation
from dragtold.search import FIRST_PAIR, Search
from dragtold.setups import Listener, next_state
from dragtold.tables import pair_place, pair_table, table_of
from dragtold.ways import Ways

MOST_MERGED_STATES = 12


def first_wrong(setup, listener, troubles):
    """The first scenario behind which a listener is wrong, None if there is none."""
    return listener_search(setup, listener, troubles).first_scenario(wrong_test(listener))


def is_wrong(setup, listener, scenario, troubles):
    """Whether a list is a scenario with these troubles behind which the listener is wrong."""
    if not is_scenario(setup, scenario, troubles):
        return False
    situation, signals = behind_all(setup, scenario)
    state = 0
    for signal in signals:
        state = next_state(listener, state, signal)
    return (state in listener.on) != is_hovered_in(situation)


def right_paper(setup, listener, troubles):
    """The least right paper, None if there is none."""
    pairs = listener_search(setup, listener, troubles).all_pairs(wrong_test(listener))
    if pairs is None:
        return None
    return sorted([(*situation, state) for situation, state in pairs])


def is_right_paper(setup, listener, troubles, paper):
    """Whether a list is a right paper, also one that is not the least."""
    if not is_list_of_rows(paper, [listener.states]):
        return False
    pairs = {((over, last), state): True for over, last, state in paper}
    return is_holding(listener_search(setup, listener, troubles), pairs, wrong_test(listener))


def first_difference(setup, one, other, troubles):
    """The first scenario behind which one of two listeners is on and the other one is not, None if there is none."""
    return search_of_two(setup, one, other, troubles).first_scenario(difference_test(one, other))


def same_paper(setup, one, other, troubles):
    """The least same paper, None if there is none."""
    pairs = search_of_two(setup, one, other, troubles).all_pairs(difference_test(one, other))
    if pairs is None:
        return None
    return sorted([(*situation, *divmod(place, other.states)) for situation, place in pairs])


def is_same_paper(setup, one, other, troubles, paper):
    """Whether a list is a same paper, also one that is not the least."""
    if not is_list_of_rows(paper, [one.states, other.states]):
        return False
    pairs = {((over, last), pair_place(other, state, beside)): True for over, last, state, beside in paper}
    return is_holding(search_of_two(setup, one, other, troubles), pairs, difference_test(one, other))


def merged(listener):
    """The listener with the fewest states that is on exactly when this one is, behind all signals whatever."""
    if listener.states > MOST_MERGED_STATES:
        raise DragError("too many states")
    table = table_of(listener)
    classes = classes_of(table, on_list(listener))
    members = first_members(table, classes)
    number = {classes[state]: at for at, state in enumerate(members)}
    rules = [
        (at, *signal, number[classes[states[state]]])
        for at, state in enumerate(members)
        for signal, states in table.items()
        if classes[states[state]] != classes[state]
    ]
    return Listener(len(members), [at for at, state in enumerate(members) if state in listener.on], rules)


def listener_search(setup, listener, troubles):
    """A search whose places are the states of a listener."""
    return Search(Ways(setup, troubles), table_of(listener), listener.states)


def search_of_two(setup, one, other, troubles):
    """A search whose places are the pairs of states of two listeners."""
    return Search(Ways(setup, troubles), pair_table(one, other), one.states * other.states)


def wrong_test(listener):
    """What tells whether a listener is wrong in a situation and a state."""
    on = on_list(listener)
    return lambda situation, state: on[state] != is_hovered_in(situation)


def difference_test(one, other):
    """What tells whether of two listeners in a pair of states just one is on."""
    differ = [mine != others for mine in on_list(one) for others in on_list(other)]
    return lambda situation, place: differ[place]


def on_list(listener):
    """For each state whether the listener is on in it."""
    return [state in listener.on for state in range(listener.states)]


def is_list_of_rows(paper, bounds):
    """Whether a value is an ascending list of situations with numbers behind them, each below its bound."""
    if not (isinstance(paper, list) and all(is_row(row, bounds) for row in paper)):
        return False
    return all(row < paper[at + 1] for at, row in enumerate(paper[:-1]))


def is_row(row, bounds):
    if not (isinstance(row, tuple) and len(row) == 2 + len(bounds)):
        return False
    over, last, *states = row
    if not (is_number(over) and is_number(last) and is_situation(over, last)):
        return False
    return all(is_number_below(state, bound) for state, bound in zip(states, bounds))


def is_holding(search, pairs, is_refused):
    """Whether pairs have the first one, none that is refused, and the one behind each turn."""
    if FIRST_PAIR not in pairs or any(is_refused(situation, place) for situation, place in pairs):
        return False
    return search.is_closed(pairs)
