import unittest
from random import Random

from dragtold.knowledge import made, sound_alike
from dragtold.setups import Setup, next_state
from dragtold.watching import Watcher
from tests.helpers import (
    KINDS, PLACES, SIGHTS, TROUBLES, all_setups, hears_all, random_scenario, random_troubles, refusal,
    setup_without_doubt)
from tests.reckoning import SIGNALS, Reckoning

ZONE = Setup("zone", ["enter", "leave", "drop"], [])
ENTER = ("enter", "inside", False, "none")
LEAVE = ("leave", "inside", False, "none")
DROP = ("drop", "inside", False, "none")
OVER = ("over", "outside", False, "none")


def watcher_with(signals, setup=ZONE, troubles=()):
    watcher = Watcher(setup, list(troubles))
    for signal in signals:
        watcher.hear(signal)
    return watcher


class VerdictTest(unittest.TestCase):
    def test_at_first(self):
        self.assertEqual(Watcher(ZONE, []).verdict(), "free")
        self.assertEqual(Watcher(Setup("root", [], []), []).verdict(), "either")
        self.assertEqual(Watcher(hears_all(), TROUBLES).verdict(), "free")

    def test_each_verdict(self):
        self.assertEqual(watcher_with([ENTER]).verdict(), "hovered")
        self.assertEqual(watcher_with([ENTER, ENTER]).verdict(), "between")
        self.assertEqual(watcher_with([ENTER, ENTER, LEAVE]).verdict(), "hovered")
        self.assertEqual(watcher_with([ENTER, LEAVE]).verdict(), "free")
        self.assertEqual(watcher_with([ENTER, DROP]).verdict(), "free")
        self.assertEqual(watcher_with([ENTER], ZONE, ["removals"]).verdict(), "either")

    def test_hear_tells_the_verdict(self):
        watcher = Watcher(ZONE, [])
        told = [watcher.hear(signal) for signal in (ENTER, ENTER, LEAVE, DROP)]
        self.assertEqual(told, ["hovered", "between", "hovered", "free"])


class KnownTest(unittest.TestCase):
    def test_at_first(self):
        # At the zone nothing is heard of what is outside.
        self.assertEqual(Watcher(ZONE, []).known(), [(0, 0, ()), (1, 0, ())])
        self.assertEqual(Watcher(hears_all(), []).known(), [(0, 0, ())])
        deaf = Setup("zone", [], SIGHTS)
        self.assertEqual(Watcher(deaf, []).known(), [(0, 0, ()), (1, 0, ()), (2, 0, ()), (3, 0, ())])

    def test_what_is_to_come(self):
        watcher = watcher_with([ENTER, ENTER])
        self.assertEqual(watcher.known(), [(2, 4, (LEAVE,)), (3, 4, (LEAVE,))])

    def test_silent_turns_behind_the_row(self):
        self.assertEqual(watcher_with([ENTER]).known(), [(2, 4, ()), (3, 4, ())])
        # Left for an element outside, and dropped there unheard.
        self.assertEqual(watcher_with([ENTER, LEAVE]).known(), [(0, 2, ()), (0, 3, ()), (1, 2, ()), (1, 3, ())])
        removals = watcher_with([ENTER], ZONE, ["removals"])
        self.assertEqual(removals.known(), [
            (0, 0, ()), (1, 0, ()), (2, 4, ()), (3, 4, ())])

    def test_situations_by_changes_alone_are_not_known(self):
        """Known are situations behind turns: not those to which changes lead ahead of the next one."""
        setup = Setup("capture", KINDS, ["own"])
        watcher = watcher_with([("enter", "inside", False, "none"), ("over", "inside", False, "none")], setup,
                               ["removals", "moves"])
        self.assertNotIn((1, 4, ()), watcher.known())
        self.assertIn((2, 4, ()), watcher.known())

    def test_ascending_as_tuples(self):
        watcher = watcher_with([("enter", "outside", False, "none")], hears_all(), TROUBLES)
        known = watcher.known()
        self.assertEqual(known, sorted(set(known)))
        for setup in (Setup("root", KINDS, []), Setup("root", ["enter", "leave", "drop", "end"], ["related"])):
            random = Random(1)
            watcher = Watcher(setup, TROUBLES)
            for _ in range(40):
                known = watcher.known()
                self.assertIs(type(known), list)
                self.assertTrue(all(type(triple) is tuple and type(triple[2]) is tuple for triple in known))
                self.assertEqual(known, sorted(set(known)))
                watcher.hear(random.choice([signal for signal in SIGNALS if can_hear(watcher, signal)]))

    def test_by_a_second_reckoning(self):
        random = Random(2)
        verdicts = set()
        for setup in random.sample(all_setups(), 60):
            troubles = random_troubles(random)
            reckoning, watcher = Reckoning(setup, troubles), Watcher(setup, troubles)
            for _ in range(5):
                row = tuple(watcher.signals())
                self.assertEqual(watcher.known(), sorted(reckoning.known(row)))
                self.assertEqual(watcher.verdict(), reckoning.verdict(row))
                verdicts.add(watcher.verdict())
                longer = [each[-1] for each in reckoning.longer_rows(row)]
                for signal in random.sample(SIGNALS, 30) + longer:
                    self.assertIs(can_hear(watcher, signal), signal in longer)
                if not longer:
                    break
                watcher.hear(random.choice(longer))
        self.assertEqual(verdicts, {"hovered", "free", "either", "between"})


def can_hear(watcher, signal):
    if refusal(watcher.hear, signal) is None:
        watcher.undo()
        return True
    return False


class HearTest(unittest.TestCase):
    def test_what_cannot_be_heard(self):
        for row, signal in [
            ([], LEAVE), ([], DROP), ([], ("enter", "outside", False, "none")), ([], ("enter", "zone", False, "none")),
            ([], ("enter", "inside", True, "none")), ([], ("enter", "inside", False, "outside")),
            ([], ("over", "inside", False, "none")), ([], ("end", "outside", False, "none")),
            ([ENTER, LEAVE], LEAVE), ([ENTER, DROP], DROP), ([ENTER, ENTER], ENTER), ([ENTER, ENTER], DROP),
        ]:
            watcher = watcher_with(row)
            known = watcher.known()
            self.assertEqual(refusal(watcher.hear, signal), "not possible", (row, signal))
            self.assertEqual((watcher.signals(), watcher.known()), (row, known))

    def test_no_signals(self):
        for signal in ((), ENTER[:3], ENTER + (0,), list(ENTER), None, 0, "enter", ("enter", "inside", 0, "none"),
                       ("enter", "inside", None, "none"), ("enter", "inside", False, None), ("enter", [], False, "none"),
                       ("Enter", "inside", False, "none"), ("enter", "inside", "no", "none"), ({}, 0, 0, 0)):
            watcher = Watcher(ZONE, [])
            self.assertEqual(refusal(watcher.hear, signal), "not possible", signal)
            self.assertEqual(watcher.signals(), [])

    def test_nothing_can_be_heard_without_kinds(self):
        for place in PLACES:
            watcher = Watcher(Setup(place, [], SIGHTS), TROUBLES)
            for signal in SIGNALS:
                self.assertEqual(refusal(watcher.hear, signal), "not possible")

    def test_200_signals_and_one_more(self):
        watcher = watcher_with([OVER] * 199, Setup("root", ["over"], []))
        self.assertEqual(watcher.hear(OVER), "free")
        self.assertEqual(refusal(watcher.hear, OVER), "too many signals")
        self.assertEqual(len(watcher.signals()), 200)
        self.assertEqual(refusal(watcher.hear, LEAVE), "not possible")
        self.assertEqual(refusal(watcher.hear, None), "not possible")
        self.assertIs(watcher.undo(), True)
        self.assertEqual(watcher.hear(("over", "inside", False, "none")), "either")
        self.assertEqual(refusal(watcher.hear, OVER), "too many signals")

    def test_200_signals_with_all_troubles(self):
        random = Random(200)
        for place in PLACES:
            setup = hears_all(place)
            watcher = Watcher(setup, TROUBLES)
            for signal in Reckoning(setup, TROUBLES).heard_in(random_scenario(random, setup, TROUBLES, 400))[1][:200]:
                watcher.hear(signal)
            self.assertEqual(len(watcher.signals()), 200)


class UndoTest(unittest.TestCase):
    def test_nothing_to_forget(self):
        watcher = Watcher(ZONE, [])
        self.assertIs(watcher.undo(), False)
        watcher.hear(ENTER)
        self.assertIs(watcher.undo(), True)
        self.assertIs(watcher.undo(), False)
        self.assertEqual(watcher.signals(), [])

    def test_all_is_as_it_was(self):
        random = Random(3)
        for place in PLACES:
            setup = hears_all(place)
            watcher, seen = Watcher(setup, TROUBLES), []
            signals = Reckoning(setup, TROUBLES).heard_in(random_scenario(random, setup, TROUBLES, 30))[1]
            for signal in signals:
                seen.append((watcher.signals(), watcher.known(), watcher.verdict()))
                watcher.hear(signal)
            for signal, before in reversed(list(zip(signals, seen))):
                told = watcher.verdict()
                watcher.undo()
                self.assertEqual((watcher.signals(), watcher.known(), watcher.verdict()), before)
                self.assertEqual(watcher.hear(signal), told)
                watcher.undo()
            self.assertIs(watcher.undo(), False)


class BelongingTest(unittest.TestCase):
    def test_what_is_passed_may_change_later(self):
        setup, troubles = Setup("zone", ["enter", "leave", "drop"], []), []
        watcher = Watcher(setup, troubles)
        setup.place, setup.kinds, setup.sights = "root", ("end",), ("own",)
        troubles.append("removals")
        self.assertEqual(watcher.hear(ENTER), "hovered")
        self.assertEqual(watcher.known(), [(2, 4, ()), (3, 4, ())])

    def test_the_order_of_troubles_has_no_effect(self):
        one, other = (watcher_with([ENTER], hears_all(), troubles) for troubles in (TROUBLES, TROUBLES[::-1]))
        self.assertEqual(one.known(), other.known())

    def test_answers_belong_to_the_caller(self):
        watcher = watcher_with([ENTER])
        watcher.signals().clear()
        watcher.known().clear()
        self.assertEqual((watcher.signals(), watcher.known()), ([ENTER], [(2, 4, ()), (3, 4, ())]))

    def test_watchers_do_not_share_what_they_heard(self):
        one, other = Watcher(ZONE, []), Watcher(ZONE, [])
        one.hear(ENTER)
        self.assertEqual((other.signals(), other.verdict()), ([], "free"))


class TogetherTest(unittest.TestCase):
    def test_a_made_listener_is_on_just_where_the_verdict_is_hovered(self):
        random = Random(4)
        for _ in range(40):
            setup, troubles, listener = setup_without_doubt(random)
            watcher, state = Watcher(setup, troubles), 0
            for _ in range(30):
                self.assertEqual(state in listener.on, watcher.verdict() == "hovered")
                self.assertNotEqual(watcher.verdict(), "either")
                heard = [rule for rule in listener.rules if rule[0] == state]
                self.assertEqual([rule[1:5] for rule in heard],
                                 [signal for signal in SIGNALS if can_hear(watcher, signal)])
                if not heard:
                    break
                signal = random.choice(heard)[1:5]
                watcher.hear(signal)
                state = next_state(listener, state, signal)

    def test_the_verdict_is_either_behind_the_first_doubt(self):
        random = Random(5)
        for setup in random.sample(all_setups(), 100):
            troubles = random_troubles(random)
            found = sound_alike(setup, troubles)
            if found is None:
                self.assertIsNone(refusal(made, setup, troubles))
            else:
                self.assertEqual(watcher_with(found[0], setup, troubles).verdict(), "either")
                for end in range(len(found[0])):
                    self.assertNotEqual(watcher_with(found[0][:end], setup, troubles).verdict(), "either")

    def test_what_is_heard_in_a_scenario_is_never_refused(self):
        random = Random(6)
        for setup in random.sample(all_setups(), 120):
            troubles = random_troubles(random)
            reckoning = Reckoning(setup, troubles)
            scenario = random_scenario(random, setup, troubles, 20)
            situation, heard = reckoning.heard_in(scenario)
            watcher = watcher_with(heard, setup, troubles)
            self.assertEqual(watcher.signals(), list(heard))
            self.assertIn((*situation, ()), watcher.known())


if __name__ == "__main__":
    unittest.main()
