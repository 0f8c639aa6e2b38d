"""Whether any listener whatever can be right, the listener that is made then, and what it needs to hear."""

from dragtold.errors import DragError
from dragtold.known import verdict_of
from dragtold.scenarios import behind_all, is_hovered_in, is_scenario
from dragtold.search import Search
from dragtold.setups import KINDS, MOST_RULES, MOST_STATES, SIGHTS, Listener, Setup
from dragtold.signals import all_signals, is_signal
from dragtold.survey import Survey
from dragtold.ways import Ways


def sound_alike(setup, troubles):
    """The first row of signals behind which there is doubt, and first scenarios for it; None if there is none."""
    ways = Ways(setup, troubles)
    row = Survey(ways).doubt
    if row is None:
        return None
    return (row, first_scenario_heard(ways, row, True), first_scenario_heard(ways, row, False))


def first_scenario_heard(ways, row, hovered):
    """The first scenario of which the row is all that is heard, and behind which the zone is hovered, or is not."""
    # The places are how much of the row was heard, and one behind them for what sounds otherwise.
    lost = len(row) + 1
    table = {
        signal: [at + 1 if at < len(row) and row[at] == signal else lost for at in range(lost + 1)]
        for signal in all_signals()
    }
    search = Search(ways, table, lost + 1)
    return search.first_scenario(
        lambda situation, place: place == len(row) and is_hovered_in(situation) == hovered
    )


def is_sound_alike(setup, troubles, signals, hovered, free):
    """Whether a row is all that is heard in two scenarios, hovered behind the first and not behind the second."""
    if not (isinstance(signals, tuple) and all(is_signal(signal) for signal in signals)):
        return False
    return sounds_like(setup, troubles, signals, hovered, True) and sounds_like(setup, troubles, signals, free, False)


def sounds_like(setup, troubles, signals, scenario, hovered):
    if not is_scenario(setup, scenario, troubles):
        return False
    situation, heard = behind_all(setup, scenario)
    return heard == signals and is_hovered_in(situation) == hovered


def made(setup, troubles):
    """The listener whose states are what is known."""
    survey = Survey(Ways(setup, troubles))
    if survey.doubt is not None:
        raise DragError("doubt")
    return listener_of(survey)


def listener_of(survey):
    if len(survey.rows) > MOST_STATES or len(survey.leads) > MOST_RULES:
        raise DragError("too many states")
    number = {known: at for at, known in enumerate(survey.rows)}
    on = [at for known, at in number.items() if verdict_of(known) == "hovered"]
    rules = [(number[known], *signal, number[following]) for known, signal, following in survey.leads]
    return Listener(len(number), on, rules)


def fewest(setup, troubles):
    """The least setups at the same place, with some of the kinds and sights, for which there is never doubt."""
    words = (*KINDS, *SIGHTS)
    found = []
    # Ascending: so all setups with fewer of the words come ahead of one.
    for mask in range(2 ** 8):
        chosen = [word for at, word in enumerate(words) if (mask >> at) % 2 == 1]
        if is_within_setup(chosen, setup) and not any(is_among(less, chosen) for less, _ in found):
            fewer = setup_of(setup.place, chosen)
            if Survey(Ways(fewer, troubles)).doubt is None:
                found.append((chosen, fewer))
    return [fewer for _, fewer in found]


def is_within_setup(words, setup):
    return all(word in setup.kinds or word in setup.sights for word in words)


def is_among(words, others):
    return all(word in others for word in words)


def setup_of(place, words):
    kinds = [word for word in words if word in KINDS]
    return Setup(place, kinds, [word for word in words if word in SIGHTS])
