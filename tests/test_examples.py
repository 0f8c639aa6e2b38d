"""The examples of point 23, as far as setups, stages and scenarios tell them."""

import unittest

from dragtold.scenarios import behind, enact, is_scenario, turns
from dragtold.setups import Setup, next_state, sample
from dragtold.stage import play

ROOT = Setup("root", ["enter", "leave", "drop", "end"], [])
ZONE = Setup("zone", ["enter", "leave", "drop"], [])


def state_behind(listener, state, signals):
    for signal in signals:
        state = next_state(listener, state, signal)
    return state


def is_wrong_in(listener, situation, state):
    return (state in listener.on) != (situation[0] in (2, 3))


def first_wrong_scenario(setup, listener, troubles, length):
    """The first of the scenarios of at most this length behind which a listener is wrong."""
    row = [([], (0, 0), 0)]
    for _ in range(length + 1):
        for scenario, situation, state in row:
            if is_wrong_in(listener, situation, state):
                return scenario
        longer = []
        for scenario, situation, state in row:
            for turn in turns(situation, troubles):
                following, signals = behind(setup, situation, turn)
                longer.append((scenario + [turn], following, state_behind(listener, state, signals)))
        row = longer
    return None


def is_right(setup, listener, troubles):
    found = [((0, 0), 0)]
    for situation, state in found:
        if is_wrong_in(listener, situation, state):
            return False
        for turn in turns(situation, troubles):
            following, signals = behind(setup, situation, turn)
            pair = (following, state_behind(listener, state, signals))
            if pair not in found:
                found.append(pair)
    return True


class ExamplesTest(unittest.TestCase):
    def test_simple_at_the_root(self):
        scenario = [(0, 0, 0, 2, 0)]
        self.assertEqual(first_wrong_scenario(ROOT, sample("simple"), [], 1), scenario)
        self.assertEqual(enact(ROOT, scenario), [("add", 0), ("point", 2, 0)])
        self.assertEqual(play(ROOT, sample("simple"), enact(ROOT, scenario)),
                         [([("enter", "outside", False, "none")], 1, True, False)])

    def test_simple_at_the_zone(self):
        scenario = [(0, 0, 0, 3, 0), (2, 4, 0, 3, 0)]
        self.assertEqual(first_wrong_scenario(ZONE, sample("simple"), [], 2), scenario)
        enter, leave = ("enter", "inside", False, "none"), ("leave", "inside", False, "none")
        self.assertEqual(play(ZONE, sample("simple"), enact(ZONE, scenario)),
                         [([enter], 1, True, True), ([enter, leave], 0, False, True)])

    def test_simple_at_the_zone_with_nothing_inside(self):
        history = [("add", 0), ("point", 2, 0), ("point", 1, 0), ("point", 1, 0), ("point", 2, 0), ("point", 1, 0),
                   ("drop", True, 0), ("point", 1, 0), ("cancel", True, 0)]
        told = play(ZONE, sample("simple"), history)
        self.assertEqual([on for _, _, on, _ in told], [hovered for _, _, _, hovered in told])
        self.assertEqual([hovered for _, _, _, hovered in told], [False, True, True, False, True, False, True, False])

    def test_counting_at_the_zone(self):
        self.assertTrue(is_right(ZONE, sample("counting"), []))
        self.assertFalse(is_right(ZONE, sample("simple"), []))
        scenario = [(0, 0, 0, 3, 0), (2, 4, 0, 3, 0)]
        self.assertEqual([told[1:] for told in play(ZONE, sample("counting"), enact(ZONE, scenario))],
                         [(1, True, True), (1, True, True)])

    def test_counting_at_the_zone_with_removals(self):
        scenario = [(0, 0, 0, 3, 0), (0, 0, 0, 2, 0)]
        self.assertFalse(is_right(ZONE, sample("counting"), ["removals"]))
        self.assertEqual(first_wrong_scenario(ZONE, sample("counting"), ["removals"], 2), scenario)
        self.assertFalse(is_scenario(ZONE, scenario, []))
        self.assertTrue(is_scenario(ZONE, scenario, ["removals"]))
        self.assertEqual(enact(ZONE, scenario), [
            ("add", 1), ("point", 2, 0), ("remove", 2), ("add", 0), ("point", 3, 0)])
        self.assertEqual(play(ZONE, sample("counting"), enact(ZONE, scenario)), [
            ([("enter", "inside", False, "none")], 1, True, True), ([], 1, True, False)])


if __name__ == "__main__":
    unittest.main()
