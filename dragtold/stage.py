"""The stage: a page on which steps are taken, while a listener hears the events."""

from dragtold.checks import is_number_below
from dragtold.errors import DragError
from dragtold.pages import FIRST_PAGE, ZONE, changed, is_movable, is_possible_change, is_there, is_within, side_of
from dragtold.setups import Listener, Setup, next_state
from dragtold.ticks import events_of, heard, target_behind

MOST_STEPS = 200
STOPS_BOUND = 8

# The lengths of the tuples, by their names.
CHANGE_LENGTHS = {"add": 2, "remove": 2, "place": 3}
TICK_LENGTHS = {"point": 3, "slip": 3, "out": 2, "drop": 3, "cancel": 3}


class Stage:
    """A page and a listener, on which steps are taken one by one, and undone."""

    def __init__(self, setup, listener):
        # Copies: the caller may change what was passed.
        self._setup = Setup(setup.place, setup.kinds, setup.sights)
        self._listener = Listener(listener.states, listener.on, listener.rules)
        self._scene = first_scene()
        self._taken = []

    def act(self, step):
        """Carries out a step; tells None for a change, (signals, state, on, hovered) for a tick."""
        if not is_possible(self._scene, step):
            raise DragError("not possible")
        if len(self._taken) >= MOST_STEPS:
            raise DragError("too many steps")
        told, scene = carried_out(self._setup, self._listener, self._scene, step)
        self._taken.append((step, self._scene))
        self._scene = scene
        return told

    def undo(self):
        """Undoes the last step that was not undone; False if there is none."""
        if len(self._taken) == 0:
            return False
        _, self._scene = self._taken.pop()
        return True

    def steps(self):
        return [step for step, _ in self._taken]

    def side(self, element):
        return side_of(self._scene[0], element)

    def is_hovered(self):
        return is_zone_hovered(self._scene)


def play(setup, listener, history):
    """The list of what is told for the ticks of a history."""
    # Not through a Stage: its bound on steps is not one on histories.
    scene = first_scene()
    answers = []
    for step in history:
        if not is_possible(scene, step):
            raise DragError("not possible")
        told, scene = carried_out(setup, listener, scene, step)
        if told is not None:
            answers.append(told)
    return answers


def first_scene():
    """A tuple of the page, the last target, the last one entered and the listener's state."""
    # Scenes are never modified, so that undoing is going back to an earlier one.
    return (FIRST_PAGE, None, None, 0)


def current_target(scene):
    page, last_target, _, _ = scene
    return last_target if is_there(page, last_target) else None


def is_zone_hovered(scene):
    current = current_target(scene)
    return current is not None and is_within(scene[0], current, ZONE)


def is_possible(scene, step):
    """Whether a value is a step, and possible in a scene."""
    if not (isinstance(step, tuple) and len(step) > 0 and isinstance(step[0], str)):
        return False
    name = step[0]
    if name in CHANGE_LENGTHS:
        return len(step) == CHANGE_LENGTHS[name] and is_possible_change(scene[0], step)
    if name not in TICK_LENGTHS or len(step) != TICK_LENGTHS[name]:
        return False
    return is_number_below(step[-1], STOPS_BOUND) and is_possible_tick(scene, step)


def is_possible_tick(scene, tick):
    name = tick[0]
    if name == "point":
        return is_there(scene[0], tick[1])
    if name == "slip":
        return is_possible_slip(scene[0], current_target(scene), tick[1])
    return name == "out" or isinstance(tick[1], bool)


def is_possible_slip(page, current, element):
    return is_movable(page, current) and current not in page and is_there(page, element) and element != current


def carried_out(setup, listener, scene, step):
    """What a step that is possible tells, and the scene behind it."""
    page, last_target, entered, state = scene
    if step[0] in CHANGE_LENGTHS:
        return None, (changed(page, step), last_target, entered, state)
    current = current_target(scene)
    signals, entered = signals_on_page(setup, page, events_of(step, current), step[-1], entered)
    for signal in signals:
        state = next_state(listener, state, signal)
    if step[0] == "slip":
        page = changed(page, ("remove", current))
    scene = (page, target_behind(step), entered, state)
    return (signals, state, state in listener.on, is_zone_hovered(scene)), scene


def signals_on_page(setup, page, events, stops, entered):
    sides = {}
    for _, target, related in events:
        sides[target] = side_of(page, target)
        if related is not None:
            sides[related] = side_of(page, related)
    return heard(setup, sides, events, stops, entered)
