"""Scenarios: what the histories of all pages come to, turn by turn."""

from dragtold.checks import is_number
from dragtold.errors import DragError
from dragtold.pages import ROOT, ZONE
from dragtold.ticks import events_of, heard, target_behind

TROUBLES = ("removals", "moves", "slips", "stops", "silent", "outs")

# The sides by their numbers in a situation, 0 being none; and what stands
# for the side of the last one entered if it is the current target.
SIDE_NAMES = ("gone", "outside", "inside", "zone")
CURRENT = 4
FIRST_SITUATION = (0, 0)

# The ticks by their numbers in a turn, as they begin.
TICKS = (
    ("point",),
    ("slip",),
    ("out",),
    ("drop", True),
    ("drop", False),
    ("cancel", True),
    ("cancel", False),
)
POINT = 0
SLIP = 1

# Numbers for the elements in one turn, beside those of the root and the zone.
OVER_ELEMENT = 2
LAST_ELEMENT = 3
NEW_ELEMENT = 4


def turns(situation, troubles):
    """The list of the turns that are possible in a situation, ascending."""
    found = []
    for situation_now in drifted(situation, troubles):
        found.extend(turns_at(situation_now, troubles))
    return sorted(found)


def turns_at(situation, troubles):
    """The turns that are possible in a situation without changes ahead, in any order."""
    over, last = situation
    return [
        (over, last, tick, target, stops)
        for tick, target in ticks_at(over, last, troubles)
        for stops in range(stops_bound(troubles))
    ]


def drifted(situation, troubles):
    """The situations to which a situation leads by changes."""
    over, last = situation
    found = []
    for over_now in drifted_sides(over, troubles):
        if last == CURRENT:
            found.append((over_now, CURRENT if over_now > 0 else 0))
        else:
            for last_now in drifted_sides(last, troubles):
                found.append((over_now, last_now))
    return found


def drifted_sides(side, troubles):
    found = [side]
    if side in (1, 2):
        if "removals" in troubles:
            found.append(0)
        if "moves" in troubles:
            found.append(3 - side)
    return found


def ticks_at(over, last, troubles):
    """The pairs of a tick and a target that are possible in a situation, in any order."""
    others = other_targets(over, last)
    found = [(POINT, target) for target in others]
    if over > 0:
        found.append((POINT, 0))
    if "slips" in troubles and over in (1, 2):
        found.extend([(SLIP, target) for target in others])
    for tick, parts in enumerate(TICKS):
        if tick > SLIP and is_let(parts, troubles):
            found.append((tick, 0))
    return found


def other_targets(over, last):
    """The targets that are not the current one."""
    found = [2, 3]
    if last in (1, 2, 3):
        found.append(1)
    if over != 3 and last != 3:
        found.append(4)
    return found


def is_let(parts, troubles):
    """Whether the troubles let a tick happen, one without a new target."""
    if parts[0] == "out":
        return "outs" in troubles
    return parts[1] or "silent" in troubles


def stops_bound(troubles):
    return 8 if "stops" in troubles else 1


def is_possible(situation, turn, troubles):
    """Whether a value is a turn, and possible in a situation."""
    if not (isinstance(turn, tuple) and len(turn) == 5 and all(is_number(part) for part in turn)):
        return False
    over, last, tick, target, stops = turn
    return (
        (over, last) in drifted(situation, troubles)
        and (tick, target) in ticks_at(over, last, troubles)
        and stops < stops_bound(troubles)
    )


def tick_of(turn, element):
    """The tick of a turn, as a step; element is its target, if it has one."""
    _, _, tick, _, stops = turn
    if tick in (POINT, SLIP):
        return (*TICKS[tick], element, stops)
    return (*TICKS[tick], stops)


def behind(setup, situation, turn):
    """The tuple (situation, signals) behind a turn that is possible in the situation."""
    over, last, tick, target, stops = turn
    current = element_at(over, OVER_ELEMENT)
    entered = current if last == CURRENT else element_at(last, LAST_ELEMENT)
    sides = sides_in(turn)
    step = tick_of(turn, (current, entered, NEW_ELEMENT, NEW_ELEMENT, ZONE)[target])
    signals, entered = heard(setup, sides, events_of(step, current), stops, entered)
    current_behind = target_behind(step)
    over_behind = number_of_side(sides, current_behind)
    if entered is None or (tick == SLIP and entered == current):
        return (over_behind, 0), tuple(signals)
    if entered == current_behind:
        return (over_behind, CURRENT), tuple(signals)
    return (over_behind, number_of_side(sides, entered)), tuple(signals)


def element_at(side, element):
    """The element on a side, by its number: None if there is none, the zone, or another one."""
    if side == 0:
        return None
    return ZONE if side == 3 else element


def sides_in(turn):
    """The sides of the elements of a turn."""
    over, last, _, target, _ = turn
    sides = {ROOT: "outside", ZONE: "zone", OVER_ELEMENT: SIDE_NAMES[over]}
    if last != CURRENT:
        sides[LAST_ELEMENT] = SIDE_NAMES[last]
    sides[NEW_ELEMENT] = "outside" if target == 2 else "inside"
    return sides


def number_of_side(sides, element):
    return 0 if element is None else SIDE_NAMES.index(sides[element])


def behind_all(setup, scenario):
    """The tuple (situation, signals) behind a scenario: all that is heard in it."""
    situation, heard_so_far = FIRST_SITUATION, []
    for turn in scenario:
        situation, signals = behind(setup, situation, turn)
        heard_so_far.extend(signals)
    return situation, tuple(heard_so_far)


def is_hovered_in(situation):
    return situation[0] in (2, 3)


def is_situation(over, last):
    return over in range(4) and last in range(5) and (over, last) not in ((0, CURRENT), (3, 3))


def is_scenario(setup, scenario, troubles):
    """Whether a value is a scenario with these troubles."""
    if not isinstance(scenario, list):
        return False
    situation = FIRST_SITUATION
    for turn in scenario:
        if not is_possible(situation, turn, troubles):
            return False
        situation, _ = behind(setup, situation, turn)
    return True


def enact(setup, scenario):
    """The history that enacts a scenario."""
    history = []
    situation = FIRST_SITUATION
    current = entered = None
    count = 2
    for turn in scenario:
        if not is_possible(situation, turn, TROUBLES):
            raise DragError("not possible")
        target = turn[3]
        history.extend(changes_ahead(situation, turn, current, entered))
        if target in (2, 3):
            history.append(("add", ROOT if target == 2 else ZONE))
            count += 1
        tick = tick_of(turn, (current, entered, count - 1, count - 1, ZONE)[target])
        history.append(tick)
        current = target_behind(tick)
        situation, _ = behind(setup, situation, turn)
        if situation[1] == CURRENT:
            entered = current
    return history


def changes_ahead(situation, turn, current, entered):
    """The changes that lead from a situation to that of a turn."""
    over, last = situation
    over_now, last_now, _, _, _ = turn
    changes = []
    if over_now != over:
        changes.append(change_to(current, over_now))
    if last != CURRENT and last_now != last:
        changes.append(change_to(entered, last_now))
    return changes


def change_to(element, side):
    """The change that brings an element outside or inside, or away."""
    if side == 0:
        return ("remove", element)
    return ("place", element, ROOT if side == 1 else ZONE)
