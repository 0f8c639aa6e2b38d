"""What several tests use."""

from itertools import combinations, product

from dragtold.errors import DragError
from dragtold.knowledge import made
from dragtold.scenarios import behind, turns
from dragtold.setups import Listener, Setup

KINDS = ("enter", "leave", "over", "drop", "end")
SIGHTS = ("own", "same", "related")
PLACES = ("zone", "root", "capture")
TROUBLES = ["removals", "moves", "slips", "stops", "silent", "outs"]
SITUATIONS = [
    (over, last) for over, last in product(range(4), range(5)) if (over, last) not in ((0, 4), (3, 3))
]


def subsets(words):
    return [list(some) for size in range(len(words) + 1) for some in combinations(words, size)]


def all_setups():
    return [Setup(*parts) for parts in product(PLACES, subsets(KINDS), subsets(SIGHTS))]


def hears_all(place="capture"):
    return Setup(place, KINDS, SIGHTS)


def deaf_listener():
    return Listener(1, [], [])


def fields(thing):
    return dict(vars(thing))


def refusal(call, *arguments):
    """The reason of the DragError that a call raises, None if it raises none."""
    try:
        call(*arguments)
    except DragError as error:
        return error.reason
    return None


def ways_to_situations(setup, troubles):
    """For each situation that scenarios lead to, a shortest scenario for it."""
    ways = {(0, 0): []}
    ahead = [(0, 0)]
    for situation in ahead:
        for turn in turns(situation, troubles):
            following, _ = behind(setup, situation, turn)
            if following not in ways:
                ways[following] = ways[situation] + [turn]
                ahead.append(following)
    return ways


def random_troubles(random):
    """Some troubles in any order."""
    return random.sample(TROUBLES, random.randrange(len(TROUBLES) + 1))


def random_setup(random):
    return Setup(random.choice(PLACES), random.choice(subsets(KINDS)[1:]), random.choice(subsets(SIGHTS)))


def random_listener(random, states, many):
    """A listener with many rules, which often name the state and the kind and seldom the rest."""
    rules = []
    for _ in range(many):
        rules.append((
            random.choice([None, random.randrange(states), random.randrange(states)]),
            random.choice([None] + list(KINDS)), random.choice([None, None, "outside", "inside", "zone"]),
            random.choice([None, None, True, False]), random.choice([None, None, None, "none", "outside", "inside"]),
            random.randrange(states)))
    return Listener(states, random.sample(range(states), random.randrange(states + 1)), rules)


def setup_without_doubt(random):
    """A setup and troubles for which some listener is right, and the made one."""
    while True:
        setup, troubles = random_setup(random), random_troubles(random)
        try:
            return setup, troubles, made(setup, troubles)
        except DragError:
            continue


def nearly_made(random):
    """A setup and troubles, and a listener that is right there, or not quite."""
    setup, troubles, listener = setup_without_doubt(random)
    on, rules = listener.on, listener.rules
    for _ in range(random.randrange(3)):
        at = random.randrange(len(rules))
        rules[at] = rules[at][:5] + (random.randrange(listener.states),)
    return setup, Listener(listener.states, on, rules), troubles


def random_scenario(random, setup, troubles, length):
    scenario, situation = [], (0, 0)
    for _ in range(length):
        scenario.append(random.choice(turns(situation, troubles)))
        situation, _ = behind(setup, situation, scenario[-1])
    return scenario


def same_fields(test, one, other):
    test.assertEqual(fields(one), fields(other))


def random_step(random, many):
    """Some step, perhaps not a possible one; many is the number of elements so far."""
    element, parent = random.randrange(many), random.randrange(many)
    stops = random.choice((0, 0, random.randrange(8)))
    told = random.random() < 0.5
    return random.choice((
        ("add", parent), ("remove", element), ("place", element, parent), ("place", element, random.randrange(2)),
        ("point", element, stops), ("point", element, stops), ("point", parent, stops), ("slip", element, stops),
        ("slip", element, stops), ("out", stops), ("drop", told, stops), ("cancel", told, stops)))


def is_let(step, troubles):
    """Whether the troubles let a step happen."""
    name = step[0]
    needed = {"remove": "removals", "place": "moves", "slip": "slips", "out": "outs"}
    if name in needed and needed[name] not in troubles:
        return False
    if name in ("add", "remove", "place"):
        return True
    if name in ("drop", "cancel") and not step[1] and "silent" not in troubles:
        return False
    return step[-1] == 0 or "stops" in troubles


def random_history_on(random, stage, troubles, length):
    """Takes steps on a stage, and tells what act returns for its ticks."""
    told = []
    for _ in range(length):
        many = 2 + sum(step[0] == "add" for step in stage.steps())
        step = random_step(random, many)
        if is_let(step, troubles):
            try:
                told.append(stage.act(step))
            except DragError:
                continue
    return [each for each in told if each is not None]
