"""What holds over the whole program: points 2, 10, 13 and 22."""

import unittest
from random import Random

from dragtold.knowledge import fewest, is_sound_alike, made, sound_alike
from dragtold.listeners import (
    first_difference, first_wrong, is_right_paper, is_same_paper, is_wrong, merged, right_paper, same_paper)
from dragtold.scenarios import behind, enact, is_scenario, turns
from dragtold.setups import Listener, Setup, next_state, sample
from dragtold.stage import Stage, play
from dragtold.texts import read_listener, text_of
from dragtold.watching import Watcher
from tests.helpers import (
    KINDS, PLACES, SIGHTS, TROUBLES, all_setups, deaf_listener, fields, hears_all, nearly_made, random_history_on,
    random_listener, random_setup, random_troubles, same_fields, setup_without_doubt, subsets)

SAMPLES = ("simple", "counting", "latest", "over", "related")


def some_cases(random, many):
    for at in range(many):
        if at % 2:
            yield nearly_made(random)
        else:
            yield random_setup(random), sample(random.choice(SAMPLES)), random_troubles(random)


class FirstWrongOnStageTest(unittest.TestCase):
    """An enacted first wrong scenario ends with a tick at which the listener is wrong, and not before."""

    def check(self, setup, listener, troubles):
        scenario = first_wrong(setup, listener, troubles)
        if scenario is None:
            return None
        self.assertIs(is_scenario(setup, scenario, troubles), True)
        self.assertIs(is_wrong(setup, listener, scenario, troubles), True)
        if scenario == []:
            self.assertIn(0, listener.on)
            return 0
        self.assertNotIn(0, listener.on)
        stage = Stage(setup, listener)
        told = [stage.act(step) for step in enact(setup, scenario)]
        ticks = [each for each in told if each is not None]
        self.assertIsNotNone(told[-1])
        self.assertEqual([on != hovered for _, _, on, hovered in ticks], [False] * (len(scenario) - 1) + [True])
        self.assertEqual(play(setup, listener, stage.steps()), ticks)
        return len(scenario)

    def test_samples_with_each_setup(self):
        random = Random(1)
        for setup in all_setups():
            self.check(setup, sample(random.choice(SAMPLES)), random_troubles(random))

    def test_each_list_of_troubles(self):
        lengths = set()
        for troubles in subsets(TROUBLES):
            for place in PLACES:
                for name in SAMPLES:
                    lengths.add(self.check(Setup(place, KINDS, SIGHTS), sample(name), troubles))
        self.assertTrue({1, 2} <= lengths, lengths)

    def test_listeners_that_are_nearly_right(self):
        random = Random(2)
        lengths = {self.check(*nearly_made(random)) for _ in range(150)}
        self.assertTrue({None, 1, 2, 3} <= lengths, lengths)

    def test_random_listeners(self):
        random = Random(3)
        for setup in random.sample(all_setups(), 100):
            listener = random_listener(random, random.randrange(1, 61), random.randrange(100))
            self.check(setup, listener, random_troubles(random))


class HistoriesTest(unittest.TestCase):
    """Points 10 and 13: what is right is so in every history, and what is wrong in one is wrong behind a scenario."""

    def test_made_listeners_in_histories(self):
        random = Random(4)
        for _ in range(80):
            setup, troubles, listener = setup_without_doubt(random)
            for _ in range(3):
                stage = Stage(setup, listener)
                for _, _, on, hovered in random_history_on(random, stage, troubles, 60):
                    self.assertEqual(on, hovered)

    def test_listeners_that_are_wrong_in_a_history(self):
        random = Random(5)
        told = {True: 0, False: 0}
        for setup, listener, troubles in some_cases(random, 200):
            ticks = random_history_on(random, Stage(setup, listener), troubles, 60)
            is_ever_wrong = any(on != hovered for _, _, on, hovered in ticks)
            told[is_ever_wrong] += 1
            if is_ever_wrong:
                first = first_wrong(setup, listener, troubles)
                self.assertIsNotNone(first)
                ahead = [on != hovered for _, _, on, hovered in ticks].index(True)
                self.assertLessEqual(len(first), ahead + 1)
                self.assertIsNone(right_paper(setup, listener, troubles))
        self.assertGreater(min(told.values()), 20)

    def test_papers_hold_in_histories(self):
        """A right paper has the state and whether it is hovered behind each tick."""
        random = Random(6)
        for _ in range(40):
            setup, troubles, listener = setup_without_doubt(random)
            paper = right_paper(setup, listener, troubles)
            pairs = {(over in (2, 3), state) for over, _, state in paper}
            for _, state, _, hovered in random_history_on(random, Stage(setup, listener), troubles, 60):
                self.assertIn((hovered, state), pairs)

    def test_same_listeners_in_histories(self):
        random = Random(7)
        for setup, one, troubles in some_cases(random, 60):
            other = merged(one) if one.states <= 12 else one
            self.assertIsNone(first_difference(setup, one, other, troubles))
            paper = same_paper(setup, one, other, troubles)
            self.assertIs(is_same_paper(setup, one, other, troubles, paper), True)
            stage = Stage(setup, one)
            ticks = random_history_on(random, stage, TROUBLES, 60)
            for mine, others in zip(ticks, play(setup, other, stage.steps())):
                self.assertEqual((mine[0], mine[2:]), (others[0], others[2:]))

    def test_listeners_that_differ_do_so_on_the_stage(self):
        random = Random(8)
        differences = 0
        for setup, one, troubles in some_cases(random, 60):
            other = random_listener(random, 4, 8)
            scenario = first_difference(setup, one, other, troubles)
            if scenario:
                history = enact(setup, scenario)
                told = [[on for _, _, on, _ in play(setup, each, history)] for each in (one, other)]
                self.assertEqual([mine != others for mine, others in zip(*told)], [False] * (len(scenario) - 1) + [True])
                differences += 1
        self.assertGreater(differences, 10)

    def test_watchers_of_histories(self):
        """A watcher that hears what is heard on a stage is never refused, and knows where the pointer is."""
        random = Random(9)
        for setup in random.sample(all_setups(), 60):
            troubles = random_troubles(random)
            watcher = Watcher(setup, troubles)
            for signals, _, _, hovered in random_history_on(random, Stage(setup, deaf_listener()), troubles, 40):
                for signal in signals:
                    watcher.hear(signal)
                self.assertIn(watcher.verdict(), ("either", "hovered" if hovered else "free"))
                self.assertIn(hovered, [over in (2, 3) for over, _, rest in watcher.known() if rest == ()])


class DoubtOnStageTest(unittest.TestCase):
    """Two scenarios that sound alike do so on the stage, whatever the listener."""

    def test_scenarios_that_sound_alike(self):
        random = Random(10)
        for setup in random.sample(all_setups(), 200):
            troubles = random_troubles(random)
            found = sound_alike(setup, troubles)
            if found is None:
                self.assertIsNone(first_wrong(setup, made(setup, troubles), troubles))
                continue
            row, *scenarios = found
            self.assertIs(is_sound_alike(setup, troubles, *found), True)
            listener = random_listener(random, random.randrange(1, 20), 20)
            ends = []
            for scenario, expected in zip(scenarios, (True, False)):
                ticks = play(setup, listener, enact(setup, scenario))
                self.assertEqual([signal for tick in ticks for signal in tick[0]], list(row))
                on, hovered = ticks[-1][2:] if ticks else (0 in listener.on, False)
                self.assertIs(hovered, expected)
                ends.append(on)
            self.assertEqual(ends[0], ends[1])
            self.assertTrue(any(is_wrong(setup, listener, scenario, troubles) for scenario in scenarios))
            self.assertIsNone(right_paper(setup, listener, troubles))


class FewestTest(unittest.TestCase):
    def test_with_each_of_the_fewest_a_listener_is_made_that_is_right(self):
        for place in PLACES:
            for troubles in ([], ["slips"], ["silent"], ["outs", "slips"]):
                for setup in fewest(hears_all(place), troubles):
                    listener = made(setup, troubles)
                    self.assertIsNone(first_wrong(setup, listener, troubles))
                    self.assertEqual([fields(each) for each in fewest(setup, troubles)], [fields(setup)])
                    for word in setup.kinds + setup.sights:
                        fewer = Setup(place, [kind for kind in setup.kinds if kind != word],
                                      [sight for sight in setup.sights if sight != word])
                        self.assertIsNotNone(sound_alike(fewer, troubles))
                    if listener.states <= 12:
                        self.assertIsNone(first_difference(setup, listener, merged(listener), TROUBLES))


class ArgumentsTest(unittest.TestCase):
    """Point 2: no function modifies its arguments, and what is returned belongs to the caller."""

    def arguments(self):
        setup, listener = Setup("root", ["enter", "leave", "drop", "end"], ["same"]), sample("counting")
        troubles = ["slips", "removals"]
        scenario = [(0, 0, 0, 3, 0), (2, 4, 0, 2, 0)]
        paper = right_paper(Setup("zone", ["enter", "leave", "drop"], []), listener, [])
        return setup, listener, sample("simple"), troubles, scenario, paper, [("add", 1), ("point", 2, 0)]

    def copied(self, arguments):
        return [fields(each) if isinstance(each, (Setup, Listener)) else list(each) for each in arguments]

    def deep(self, arguments):
        """A copy in which no list is shared."""
        return [{name: tuple(value) if isinstance(value, list) else value for name, value in each.items()}
                if isinstance(each, dict) else tuple(each) for each in self.copied(arguments)]

    def test_no_argument_is_modified(self):
        arguments = self.arguments()
        setup, one, other, troubles, scenario, paper, history = arguments
        before = self.deep(arguments)
        row = (("enter", "inside", False, "none"),)
        for call in (
            lambda: next_state(one, 0, row[0]), lambda: play(setup, one, history), lambda: turns((2, 4), troubles),
            lambda: behind(setup, (0, 0), scenario[0]), lambda: is_scenario(setup, scenario, troubles),
            lambda: enact(setup, scenario), lambda: first_wrong(setup, one, troubles),
            lambda: is_wrong(setup, one, scenario, troubles), lambda: right_paper(setup, one, troubles),
            lambda: is_right_paper(setup, one, troubles, paper), lambda: same_paper(setup, one, other, troubles),
            lambda: is_same_paper(setup, one, other, troubles, paper), lambda: merged(one), lambda: text_of(one),
            lambda: first_difference(setup, one, other, troubles), lambda: sound_alike(setup, troubles),
            lambda: is_sound_alike(setup, troubles, row, scenario, scenario), lambda: fewest(setup, troubles),
            lambda: made(setup, ["slips"]), lambda: Watcher(setup, troubles).hear(row[0]),
            lambda: Stage(setup, one).act(history[0]),
        ):
            first = call()
            self.assertEqual(self.deep(arguments), before)
            second = call()
            self.assertEqual(self.plain(first), self.plain(second))
            if isinstance(first, list):
                first.clear()
                self.assertEqual(self.plain(call()), self.plain(second))

    def plain(self, value):
        if isinstance(value, list):
            return [self.plain(each) for each in value]
        return fields(value) if isinstance(value, (Setup, Listener)) else value

    def test_troubles_in_any_order(self):
        random = Random(12)
        for setup, listener, troubles in some_cases(random, 30):
            shuffled = random.sample(troubles, len(troubles))
            self.assertEqual(right_paper(setup, listener, troubles), right_paper(setup, listener, shuffled))
            self.assertEqual(first_wrong(setup, listener, troubles), first_wrong(setup, listener, shuffled))
            self.assertEqual(sound_alike(setup, troubles), sound_alike(setup, shuffled))
            self.assertEqual(self.plain(fewest(setup, troubles)), self.plain(fewest(setup, shuffled)))
            self.assertEqual(Watcher(setup, troubles).known(), Watcher(setup, shuffled).known())
            self.assertEqual(turns((2, 1), troubles), turns((2, 1), shuffled))

    def test_no_troubles(self):
        setup = Setup("zone", ["enter", "leave", "drop"], [])
        self.assertIsNone(first_wrong(setup, sample("counting"), []))
        self.assertEqual(made(setup, []).states, 4)

    def test_what_was_passed_may_change_later(self):
        setup, listener, troubles = Setup("zone", ["enter", "leave", "drop"], []), sample("counting"), []
        stage, watcher = Stage(setup, listener), Watcher(setup, troubles)
        listener.rules.clear()
        listener.on.append(0)
        setup.kinds = ()
        troubles.extend(TROUBLES)
        signal = ("enter", "inside", False, "none")
        self.assertEqual(stage.act(("point", 1, 0)), ([signal], 1, True, True))
        self.assertEqual(watcher.hear(signal), "hovered")


class TextsOfMadeTest(unittest.TestCase):
    def test_there_and_back(self):
        random = Random(13)
        for _ in range(30):
            setup, troubles, listener = setup_without_doubt(random)
            again = read_listener(text_of(listener))
            same_fields(self, again, listener)
            self.assertIsNone(first_difference(setup, listener, again, troubles))


class GoodTimeTest(unittest.TestCase):
    """The largest cases: all troubles together, all kinds and sights, listeners of 60 states and 1200 rules."""

    def test_all_troubles_at_each_place(self):
        random = Random(14)
        for place in PLACES:
            setup = hears_all(place)
            listener = random_listener(random, 60, 1200)
            listener.on = [state for state in listener.on if state]
            first = first_wrong(setup, listener, TROUBLES)
            self.assertIs(is_wrong(setup, listener, first, TROUBLES), True)
            self.assertEqual(fewest(setup, TROUBLES), [])
            self.assertIs(is_sound_alike(setup, TROUBLES, *sound_alike(setup, TROUBLES)), True)

    def test_each_setup_with_some_troubles(self):
        """No made listener has more than 24 states."""
        random = Random(15)
        most = 0
        for setup in all_setups():
            for troubles in ([], TROUBLES, random_troubles(random)):
                if sound_alike(setup, troubles) is None:
                    most = max(most, made(setup, troubles).states)
        self.assertLessEqual(most, 24)
        self.assertGreater(most, 10)


if __name__ == "__main__":
    unittest.main()
