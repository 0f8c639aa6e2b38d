"""What several tests use."""

from itertools import combinations, product

from dragtold.errors import DragError
from dragtold.scenarios import behind, turns
from dragtold.setups import Listener, Setup

KINDS = ("enter", "leave", "over", "drop", "end")
SIGHTS = ("own", "same", "related")
PLACES = ("zone", "root", "capture")
TROUBLES = ["removals", "moves", "slips", "stops", "silent", "outs"]
SITUATIONS = [
    (over, last) for over, last in product(range(4), range(5)) if (over, last) not in ((0, 4), (3, 3))
]


def subsets(words):
    return [list(some) for size in range(len(words) + 1) for some in combinations(words, size)]


def all_setups():
    return [Setup(*parts) for parts in product(PLACES, subsets(KINDS), subsets(SIGHTS))]


def hears_all(place="capture"):
    return Setup(place, KINDS, SIGHTS)


def deaf_listener():
    return Listener(1, [], [])


def fields(thing):
    return dict(vars(thing))


def refusal(call, *arguments):
    """The reason of the DragError that a call raises, None if it raises none."""
    try:
        call(*arguments)
    except DragError as error:
        return error.reason
    return None


def ways_to_situations(setup, troubles):
    """For each situation that scenarios lead to, a shortest scenario for it."""
    ways = {(0, 0): []}
    ahead = [(0, 0)]
    for situation in ahead:
        for turn in turns(situation, troubles):
            following, _ = behind(setup, situation, turn)
            if following not in ways:
                ways[following] = ways[situation] + [turn]
                ahead.append(following)
    return ways
