"""The parts held against each other, as point 14 says, and against a second model of pages."""

import unittest
from random import Random

from dragtold.errors import DragError
from dragtold.scenarios import behind, enact, is_scenario, turns
from dragtold.setups import Setup, next_state, sample
from dragtold.stage import Stage, play
from tests.browser import Browser
from tests.helpers import (
    KINDS, SIGHTS, TROUBLES, all_setups, deaf_listener, hears_all, random_scenario, random_step, ways_to_situations)

SAMPLES = ("simple", "counting", "latest", "over", "related")


class EnactedTest(unittest.TestCase):
    """An enacted history has the signals of the scenario, and is hovered like it."""

    def check(self, setup, scenario, listener):
        told = play(setup, listener, enact(setup, scenario))
        self.assertEqual(len(told), len(scenario))
        situation, state = (0, 0), 0
        for turn, (signals, state_told, on, hovered) in zip(scenario, told):
            situation, expected = behind(setup, situation, turn)
            self.assertEqual(tuple(signals), expected, scenario)
            self.assertEqual(hovered, situation[0] in (2, 3), scenario)
            for signal in expected:
                state = next_state(listener, state, signal)
            self.assertEqual((state_told, on), (state, state in listener.on), scenario)

    def check_each_turn(self, setup, troubles):
        """Each turn that is possible in each situation that can be reached."""
        listener = sample("counting")
        for situation, way in ways_to_situations(setup, troubles).items():
            for turn in turns(situation, troubles):
                self.check(setup, way + [turn], listener)

    def test_each_turn_of_some_setups(self):
        for setup in (hears_all("zone"), hears_all("root"), Setup("root", ["leave", "over"], SIGHTS),
                      Setup("zone", ["enter"], ["own"])):
            self.check_each_turn(setup, TROUBLES)

    def test_each_turn_without_stops_at_each_place(self):
        troubles = [trouble for trouble in TROUBLES if trouble != "stops"]
        for place in ("zone", "root", "capture"):
            for kinds in (KINDS, ("enter", "leave", "drop"), ("leave", "end")):
                self.check_each_turn(Setup(place, kinds, SIGHTS), troubles)

    def test_long_scenarios_of_each_setup(self):
        random = Random(14)
        for setup in all_setups():
            troubles = [trouble for trouble in TROUBLES if random.random() < 0.7]
            scenario = random_scenario(random, setup, troubles, 12)
            self.assertIs(is_scenario(setup, scenario, troubles), True)
            self.check(setup, scenario, sample(random.choice(SAMPLES)))

    def test_sixty_turns(self):
        random = Random(60)
        for setup in (hears_all("zone"), hears_all("root"), hears_all("capture")):
            self.check(setup, random_scenario(random, setup, TROUBLES, 60), sample("latest"))


def random_walk(random, setup, length, taken):
    """Takes steps on a stage; taken(browser, step, told) is called behind each, browser being ahead of it."""
    stage = Stage(setup, deaf_listener())
    browser = Browser(setup.place, setup.kinds, setup.sights)
    while len(stage.steps()) < length:
        step = random_step(random, len(browser.nodes))
        if step[0] == "remove" and random.random() < 0.5:
            continue
        try:
            told = stage.act(step)
        except DragError:
            continue
        taken(stage, browser, step, told)
    return stage.steps()


class BrowserTest(unittest.TestCase):
    """Random histories are heard as a second model hears them."""

    def take(self, stage, browser, step, told):
        signals = browser.step(step)
        self.assertEqual(signals, told if told is None else told[0])
        self.assertEqual(stage.is_hovered(), browser.hovered())
        if told is not None:
            self.assertEqual(told[3], browser.hovered())
        sides = [browser.side(node) for node in browser.nodes]
        self.assertEqual([stage.side(at) for at in range(len(sides) + 1)], sides + ["gone"])

    def test_each_setup(self):
        random = Random(7)
        for setup in all_setups():
            random_walk(random, setup, 25, self.take)

    def test_long_histories(self):
        random = Random(200)
        for place in ("zone", "root", "capture"):
            for _ in range(4):
                random_walk(random, hears_all(place), 200, self.take)


SIDE_NUMBERS = {"gone": 0, "outside": 1, "inside": 2, "zone": 3}


def situation_of(browser):
    """The situation on a page, by point 11."""
    current, entered = browser.current(), browser.entered
    over = 0 if current is None else SIDE_NUMBERS[browser.side(current)]
    if entered is not None and entered is current:
        return over, 4
    return over, 0 if entered is None else SIDE_NUMBERS[browser.side(entered)]


def turn_of(browser, step):
    """The turn that a tick on a page sounds like."""
    current, entered = browser.current(), browser.entered
    name, *rest = step
    stops = rest[-1]
    tick = {"point": 0, "slip": 1, "out": 2, "drop": 3, "cancel": 5}[name]
    if name in ("drop", "cancel") and not rest[0]:
        tick += 1
    target = 0
    dispatched = [] if current is None else [current]
    if name in ("point", "slip"):
        there = browser.nodes[rest[0]]
        number = SIDE_NUMBERS[browser.side(there)]
        target = 0 if there is current else 1 if there is entered else number + 1
        dispatched = [there] if there is current else [there] + dispatched + [there]
        if name == "slip":
            dispatched = [there, there]
    if browser.place == "root":
        # The root hears its own events even if they are stopped.
        for at, node in enumerate(dispatched):
            if node is browser.root:
                stops &= ~(1 << at)
    return situation_of(browser) + (tick, target, stops)


class SoundsLikeTest(unittest.TestCase):
    """Each history whose last step is a tick sounds like some scenario, and is hovered like it."""

    def check(self, random, setup, length):
        situation, scenario = (0, 0), []

        def take(stage, browser, step, told):
            nonlocal situation
            if told is None:
                browser.step(step)
                return
            turn = turn_of(browser, step)
            self.assertIn(turn, turns(situation, TROUBLES))
            browser.step(step)
            situation, signals = behind(setup, situation, turn)
            self.assertEqual(signals, tuple(told[0]))
            self.assertEqual(situation, situation_of(browser))
            self.assertEqual(told[3], situation[0] in (2, 3))
            scenario.append(turn)

        random_walk(random, setup, length, take)
        self.assertIs(is_scenario(setup, scenario, TROUBLES), True)

    def test_each_setup(self):
        random = Random(13)
        for setup in all_setups():
            self.check(random, setup, 20)

    def test_long_histories(self):
        random = Random(113)
        for place in ("zone", "root", "capture"):
            for _ in range(3):
                self.check(random, hears_all(place), 200)


if __name__ == "__main__":
    unittest.main()
