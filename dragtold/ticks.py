"""What happens at a tick: the events that are dispatched, and what is heard of them."""

from dragtold.pages import ROOT, ZONE

END_SIGNAL = ("end", "outside", False, "none")


def events_of(tick, current):
    """The events of a tick, tuples (kind, target, related target), in order.

    current is the current target; it and the related target are None if there is none.
    """
    name = tick[0]
    if name == "point":
        return point_events(tick[1], current)
    if name == "slip":
        return [("enter", tick[1], current), ("over", tick[1], None)]
    events = []
    if current is not None:
        events.append(("drop" if name == "drop" else "leave", current, None))
    if name != "out" and tick[1]:
        events.append(("end", ROOT, None))
    return events


def point_events(element, current):
    if element == current:
        return [("over", element, None)]
    if current is None:
        return [("enter", element, None), ("over", element, None)]
    return [("enter", element, current), ("leave", current, element), ("over", element, None)]


def target_behind(tick):
    """The last target behind a tick, None if there is none."""
    return tick[1] if tick[0] in ("point", "slip") else None


def heard(setup, sides, events, stops, entered):
    """The list of the signals that are heard of events, and the last one entered behind them.

    sides has the side of each target and related target when the tick begins;
    entered is the last one entered ahead of the events, None if there is none.
    """
    signals = []
    for at, event in enumerate(events):
        kind, target, _ = event
        stopped = (stops >> at) % 2 == 1
        if kind in setup.kinds and reaches(setup.place, target, sides[target], stopped):
            signals.append(signal_of(setup, sides, event, entered))
            if kind == "enter":
                entered = target
    return signals, entered


def reaches(place, target, side, stopped):
    # End events need no case: their target is the root, so a stop cannot
    # keep them from the root, and they are not within the zone.
    if place == "capture":
        return True
    if place == "root":
        return target == ROOT or not stopped
    return target == ZONE or (side == "inside" and not stopped)


def signal_of(setup, sides, event, entered):
    kind, target, related = event
    if kind == "end":
        return END_SIGNAL
    side = sides[target]
    if "own" not in setup.sights:
        side = without_zone(side)
    same = "same" in setup.sights and target == entered
    if "related" not in setup.sights or related is None:
        return (kind, side, same, "none")
    return (kind, side, same, without_zone(sides[related]))


def without_zone(side):
    return "inside" if side == "zone" else side
