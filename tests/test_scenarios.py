import unittest
from itertools import product

from dragtold.scenarios import behind, enact, is_scenario, turns
from dragtold.setups import Setup
from dragtold.stage import play
from tests.helpers import SITUATIONS, TROUBLES, deaf_listener, hears_all, refusal, subsets


def possible_by_the_text(situation, turn, troubles):
    """Point 12 word by word, for a tuple of five numbers."""
    over, last, tick, target, stops = turn
    if (over, last) not in SITUATIONS:
        return False

    def leads(before, now):
        return (now == before or ("removals" in troubles and before in (1, 2) and now == 0)
                or ("moves" in troubles and (before, now) in ((1, 2), (2, 1))))

    if not leads(situation[0], over):
        return False
    if situation[1] == 4:
        if last != (0 if over == 0 else 4):
            return False
    elif last == 4 or not leads(situation[1], last):
        return False
    if stops > (7 if "stops" in troubles else 0):
        return False
    if tick in (0, 1):
        if tick == 1 and not ("slips" in troubles and over in (1, 2)):
            return False
        return {0: tick == 0 and over != 0, 1: last in (1, 2, 3), 2: True, 3: True,
                4: over != 3 and last != 3}.get(target, False)
    needed = {2: "outs", 4: "silent", 6: "silent"}
    return tick in range(2, 7) and target == 0 and (tick not in needed or needed[tick] in troubles)


class TurnsTest(unittest.TestCase):
    def test_at_first_without_troubles(self):
        self.assertEqual(turns((0, 0), []), [
            (0, 0, 0, 2, 0), (0, 0, 0, 3, 0), (0, 0, 0, 4, 0), (0, 0, 3, 0, 0), (0, 0, 5, 0, 0)])

    def test_each_trouble_alone(self):
        base = [(1, 2, 0, target, 0) for target in range(5)] + [(1, 2, 3, 0, 0), (1, 2, 5, 0, 0)]
        self.assertEqual(turns((1, 2), []), base)
        self.assertEqual(turns((1, 2), ["outs"]), sorted(base + [(1, 2, 2, 0, 0)]))
        self.assertEqual(turns((1, 2), ["silent"]), sorted(base + [(1, 2, 4, 0, 0), (1, 2, 6, 0, 0)]))
        self.assertEqual(turns((1, 2), ["slips"]), sorted(base + [(1, 2, 1, target, 0) for target in range(1, 5)]))
        self.assertEqual(turns((1, 2), ["stops"]), [turn[:4] + (stops,) for turn in base for stops in range(8)])
        self.assertEqual(sorted({turn[:2] for turn in turns((1, 2), ["removals"])}), [(0, 0), (0, 2), (1, 0), (1, 2)])
        self.assertEqual(sorted({turn[:2] for turn in turns((1, 2), ["moves"])}), [(1, 1), (1, 2), (2, 1), (2, 2)])

    def test_situations_ahead_of_the_tick(self):
        def ahead(situation, troubles):
            return sorted({turn[:2] for turn in turns(situation, troubles)})

        both = ["removals", "moves"]
        self.assertEqual(ahead((1, 4), both), [(0, 0), (1, 4), (2, 4)])
        self.assertEqual(ahead((2, 4), ["removals"]), [(0, 0), (2, 4)])
        self.assertEqual(ahead((2, 4), ["moves"]), [(1, 4), (2, 4)])
        self.assertEqual(ahead((3, 4), both), [(3, 4)])
        self.assertEqual(ahead((3, 1), both), [(3, 0), (3, 1), (3, 2)])
        self.assertEqual(ahead((2, 3), both), [(0, 3), (1, 3), (2, 3)])
        self.assertEqual(ahead((0, 0), both), [(0, 0)])
        self.assertEqual(len(ahead((2, 1), both)), 9)

    def test_targets(self):
        def targets(situation, tick):
            return [turn[3] for turn in turns(situation, ["slips"]) if turn[2] == tick]

        self.assertEqual(targets((0, 0), 0), [2, 3, 4])
        self.assertEqual(targets((1, 4), 0), [0, 2, 3, 4])
        self.assertEqual(targets((3, 4), 0), [0, 2, 3])
        self.assertEqual(targets((3, 0), 0), [0, 2, 3])
        self.assertEqual(targets((1, 3), 0), [0, 1, 2, 3])
        self.assertEqual(targets((0, 3), 0), [1, 2, 3])
        self.assertEqual(targets((1, 4), 1), [2, 3, 4])
        self.assertEqual(targets((2, 3), 1), [1, 2, 3])
        self.assertEqual(targets((2, 0), 1), [2, 3, 4])
        self.assertEqual(targets((3, 1), 1), [])
        self.assertEqual(targets((0, 1), 1), [])

    def test_all_by_the_text(self):
        candidates = list(product(range(5), range(6), range(8), range(6), (0, 1, 7, 8)))
        for troubles in subsets(TROUBLES):
            for situation in SITUATIONS[::4] if len(troubles) in (2, 3, 4) else SITUATIONS:
                found = [turn for turn in turns(situation, troubles) if turn[4] in (0, 1, 7)]
                if "moves" not in troubles and "removals" not in troubles:
                    near = [turn for turn in candidates if turn[:2] == situation]
                else:
                    near = candidates
                self.assertEqual(found, [turn for turn in near if possible_by_the_text(situation, turn, troubles)])

    def test_ascending_none_twice_and_of_plain_numbers(self):
        for situation in SITUATIONS:
            found = turns(situation, TROUBLES)
            self.assertEqual(found, sorted(set(found)))
            self.assertTrue(all(type(part) is int for turn in found for part in turn))

    def test_the_order_of_troubles_has_no_effect_and_they_stay(self):
        troubles = TROUBLES[::-1]
        self.assertEqual(turns((2, 1), troubles), turns((2, 1), TROUBLES))
        self.assertEqual(troubles, TROUBLES[::-1])

    def test_answers_belong_to_the_caller(self):
        turns((0, 0), []).clear()
        self.assertEqual(len(turns((0, 0), [])), 5)


class BehindTest(unittest.TestCase):
    def check(self, setup, turn, situation, signals):
        self.assertEqual(behind(setup, turn[:2], turn), (situation, tuple(signals)))

    def test_points(self):
        setup = hears_all()
        over = ("over", "inside", True, "none")
        self.check(setup, (0, 0, 0, 3, 0), (2, 4), [("enter", "inside", False, "none"), over])
        self.check(setup, (2, 4, 0, 0, 0), (2, 4), [over])
        self.check(setup, (2, 0, 0, 0, 0), (2, 0), [("over", "inside", False, "none")])
        self.check(setup, (2, 4, 0, 3, 0), (2, 4), [
            ("enter", "inside", False, "inside"), ("leave", "inside", False, "inside"), over])
        self.check(setup, (3, 1, 0, 1, 0), (1, 4), [
            ("enter", "outside", True, "inside"), ("leave", "zone", False, "outside"),
            ("over", "outside", True, "none")])
        self.check(setup, (1, 0, 0, 4, 0), (3, 4), [
            ("enter", "zone", False, "outside"), ("leave", "outside", False, "inside"), ("over", "zone", True, "none")])
        self.check(setup, (0, 3, 0, 1, 0), (3, 4), [("enter", "zone", True, "none"), ("over", "zone", True, "none")])
        self.check(setup, (0, 2, 0, 2, 0), (1, 4), [
            ("enter", "outside", False, "none"), ("over", "outside", True, "none")])

    def test_an_enter_event_that_is_not_heard(self):
        setup = Setup("root", ["leave", "over"], ["same"])
        self.check(setup, (2, 4, 0, 2, 0), (1, 2), [
            ("leave", "inside", True, "none"), ("over", "outside", False, "none")])
        self.check(setup, (3, 4, 0, 3, 0), (2, 3), [
            ("leave", "inside", True, "none"), ("over", "inside", False, "none")])
        self.check(setup, (1, 4, 0, 3, 0), (2, 1), [
            ("leave", "outside", True, "none"), ("over", "inside", False, "none")])
        self.check(setup, (1, 2, 0, 1, 0), (2, 4), [
            ("leave", "outside", False, "none"), ("over", "inside", True, "none")])
        self.check(setup, (1, 2, 0, 3, 0), (2, 2), [
            ("leave", "outside", False, "none"), ("over", "inside", False, "none")])
        stopped = Setup("root", ["enter"], [])
        self.check(stopped, (0, 0, 0, 3, 1), (2, 0), [])
        self.check(stopped, (0, 0, 0, 3, 6), (2, 4), [("enter", "inside", False, "none")])

    def test_slips(self):
        setup = hears_all()
        self.check(setup, (2, 4, 1, 2, 0), (1, 4), [
            ("enter", "outside", False, "inside"), ("over", "outside", True, "none")])
        self.check(setup, (1, 3, 1, 1, 0), (3, 4), [
            ("enter", "zone", True, "outside"), ("over", "zone", True, "none")])
        deaf = Setup("zone", [], [])
        self.check(deaf, (2, 4, 1, 3, 0), (2, 0), [])
        self.check(deaf, (2, 1, 1, 3, 0), (2, 1), [])
        self.check(deaf, (2, 1, 1, 1, 0), (1, 4), [])
        self.check(deaf, (1, 0, 1, 4, 0), (3, 0), [])

    def test_ends(self):
        setup = hears_all()
        end = ("end", "outside", False, "none")
        for last, behind_last in ((0, 0), (1, 1), (2, 2), (4, 2), (3, 3)):
            same = last == 4
            self.check(setup, (2, last, 2, 0, 0), (0, behind_last), [("leave", "inside", same, "none")])
            self.check(setup, (2, last, 3, 0, 0), (0, behind_last), [("drop", "inside", same, "none"), end])
            self.check(setup, (2, last, 4, 0, 0), (0, behind_last), [("drop", "inside", same, "none")])
            self.check(setup, (2, last, 5, 0, 0), (0, behind_last), [("leave", "inside", same, "none"), end])
            self.check(setup, (2, last, 6, 0, 0), (0, behind_last), [("leave", "inside", same, "none")])
        self.check(setup, (3, 4, 3, 0, 0), (0, 3), [("drop", "zone", True, "none"), end])

    def test_ends_without_a_current_target(self):
        end = ("end", "outside", False, "none")
        for last, tick in product((0, 1, 2, 3), (2, 3, 4, 5, 6)):
            signals = [end] if tick in (3, 5) else []
            for stops in range(8):
                self.check(hears_all("root"), (0, last, tick, 0, stops), (0, last), signals)
                self.check(hears_all("zone"), (0, last, tick, 0, stops), (0, last), [])

    def test_stops(self):
        setup = Setup("root", ["enter", "leave", "over"], [])
        events = [("enter", "outside", False, "none"), ("leave", "inside", False, "none"),
                  ("over", "outside", False, "none")]
        for stops in range(8):
            heard = [event for at, event in enumerate(events) if not stops & 2 ** at]
            self.check(setup, (3, 4, 0, 2, stops), (1, 3 if stops & 1 else 4), heard)
        zone = Setup("zone", ["enter", "leave", "over"], [])
        for stops in range(8):
            self.check(zone, (3, 4, 0, 2, stops), (1, 3), events[1:2])

    def test_answers_are_tuples(self):
        situation, signals = behind(hears_all(), (0, 0), (0, 0, 0, 2, 0))
        self.assertIs(type(situation), tuple)
        self.assertIs(type(signals), tuple)
        self.assertTrue(all(type(signal) is tuple and type(signal[2]) is bool for signal in signals))
        self.assertEqual(behind(hears_all(), (0, 0), (0, 0, 4, 0, 0)), ((0, 0), ()))

    def test_the_situation_behind_is_one(self):
        for setup in (hears_all(), hears_all("zone"), Setup("root", ["over"], [])):
            for situation in SITUATIONS:
                for turn in turns(situation, TROUBLES):
                    self.assertIn(behind(setup, situation, turn)[0], SITUATIONS)


class IsScenarioTest(unittest.TestCase):
    SETUP = Setup("zone", ["enter", "leave"], [])

    def is_one(self, scenario, troubles=(), setup=None):
        return is_scenario(setup or self.SETUP, scenario, list(troubles))

    def test_the_empty_one(self):
        self.assertIs(self.is_one([]), True)

    def test_scenarios(self):
        self.assertIs(self.is_one([(0, 0, 0, 3, 0), (2, 4, 0, 3, 0), (2, 4, 3, 0, 0), (0, 2, 0, 1, 0)]), True)
        self.assertIs(self.is_one([(0, 0, 0, 2, 0), (1, 0, 0, 2, 0), (1, 0, 5, 0, 0)]), True)

    def test_it_depends_on_what_is_heard(self):
        scenario = [(0, 0, 0, 2, 0), (1, 4, 0, 2, 0)]
        self.assertIs(self.is_one(scenario), False)
        self.assertIs(self.is_one(scenario, setup=Setup("root", ["enter"], [])), True)
        self.assertIs(self.is_one(scenario, setup=Setup("root", ["leave"], [])), False)

    def test_each_trouble_is_needed(self):
        for trouble, scenario in [
            ("removals", [(0, 0, 0, 3, 0), (0, 0, 0, 2, 0)]),
            ("moves", [(0, 0, 0, 3, 0), (1, 4, 0, 2, 0)]),
            ("slips", [(0, 0, 0, 3, 0), (2, 4, 1, 2, 0)]),
            ("stops", [(0, 0, 0, 3, 7)]),
            ("silent", [(0, 0, 0, 3, 0), (2, 4, 4, 0, 0)]),
            ("silent", [(0, 0, 0, 3, 0), (2, 4, 6, 0, 0)]),
            ("outs", [(0, 0, 0, 3, 0), (2, 4, 2, 0, 0)]),
        ]:
            others = [other for other in TROUBLES if other != trouble]
            self.assertIs(self.is_one(scenario, [trouble]), True)
            self.assertIs(self.is_one(scenario, others), False)
            self.assertIs(self.is_one(scenario, others[:2] + [trouble] + others[2:]), True)

    def test_no_scenarios(self):
        for scenario in ([(0, 0, 0, 0, 0)], [(0, 0, 0, 1, 0)], [(0, 0, 1, 2, 0)], [(1, 0, 0, 2, 0)], [(0, 0, 7, 0, 0)],
                         [(0, 0, 3, 2, 0)], [(0, 0, 0, 5, 0)], [(0, 0, 0, 2, 8)], [(0, 0, 0, 2, -1)],
                         [(0, 0, 0, 3, 0), (0, 2, 3, 0, 0)], [(0, 0, 0, 4, 0), (3, 4, 0, 4, 0)],
                         [(0, 0, 0, 4, 0), (3, 4, 1, 2, 0)], [(0, 0, 0, 4, 0), (0, 0, 0, 2, 0)]):
            self.assertIs(self.is_one(scenario, TROUBLES), False, scenario)

    def test_no_rows_of_turns(self):
        for scenario in (None, 0, (), ((0, 0, 0, 2, 0),), "", {(0, 0, 0, 2, 0): True}):
            self.assertIs(self.is_one(scenario, TROUBLES), False, scenario)

    def test_no_turns(self):
        for turn in ((), (0, 0, 0, 2), (0, 0, 0, 2, 0, 0), [0, 0, 0, 2, 0], (False, 0, 0, 2, 0), (0, 0, 0, 2, False),
                     (0, 0, False, 2, 0), (0, 0, 0, "2", 0), (0, 0, None, 2, 0), None, 0, "00020"):
            self.assertIs(self.is_one([turn], TROUBLES), False, turn)

    def test_long_ones(self):
        scenario = [(0, 0, 0, 4, 0)] + [(3, 4, 0, 0, 0)] * 80
        self.assertIs(self.is_one(scenario), True)
        self.assertIs(self.is_one(scenario + [(3, 4, 0, 4, 0)]), False)


class EnactTest(unittest.TestCase):
    SETUP = Setup("zone", ["enter", "leave"], [])

    def test_nothing(self):
        self.assertEqual(enact(self.SETUP, []), [])

    def test_points(self):
        self.assertEqual(enact(self.SETUP, [(0, 0, 0, 2, 1)]), [("add", 0), ("point", 2, 1)])
        self.assertEqual(enact(self.SETUP, [(0, 0, 0, 3, 0)]), [("add", 1), ("point", 2, 0)])
        self.assertEqual(enact(self.SETUP, [(0, 0, 0, 4, 7)]), [("point", 1, 7)])
        self.assertEqual(
            enact(self.SETUP, [(0, 0, 0, 3, 0), (2, 4, 0, 2, 0), (1, 2, 0, 0, 3), (1, 2, 0, 1, 0)]),
            [("add", 1), ("point", 2, 0), ("add", 0), ("point", 3, 0), ("point", 3, 3), ("point", 2, 0)])

    def test_ticks(self):
        ticks = [(2, ("out", 5)), (3, ("drop", True, 5)), (4, ("drop", False, 5)), (5, ("cancel", True, 5)),
                 (6, ("cancel", False, 5))]
        for tick, step in ticks:
            self.assertEqual(enact(self.SETUP, [(0, 0, tick, 0, 5)]), [step])
            self.assertEqual(enact(self.SETUP, [(0, 0, 0, 4, 0), (3, 4, tick, 0, 5), (0, 3, 0, 1, 0)]),
                             [("point", 1, 0), step, ("point", 1, 0)])
            self.assertEqual(enact(self.SETUP, [(0, 0, 0, 3, 0), (2, 4, tick, 0, 5), (0, 2, 0, 1, 0)]),
                             [("add", 1), ("point", 2, 0), step, ("point", 2, 0)])

    def test_slips(self):
        start = [(0, 0, 0, 3, 0)]
        steps = [("add", 1), ("point", 2, 0)]
        self.assertEqual(enact(self.SETUP, start + [(2, 4, 1, 2, 2)]), steps + [("add", 0), ("slip", 3, 2)])
        self.assertEqual(enact(self.SETUP, start + [(2, 4, 1, 3, 0)]), steps + [("add", 1), ("slip", 3, 0)])
        self.assertEqual(enact(self.SETUP, start + [(2, 4, 1, 4, 0)]), steps + [("slip", 1, 0)])
        self.assertEqual(enact(self.SETUP, start + [(2, 4, 0, 2, 0), (1, 2, 1, 1, 0)]),
                         steps + [("add", 0), ("point", 3, 0), ("slip", 2, 0)])

    def test_changes_of_the_current_target(self):
        start = [(0, 0, 0, 3, 0)]
        steps = [("add", 1), ("point", 2, 0)]
        self.assertEqual(enact(self.SETUP, start + [(0, 0, 0, 2, 0)]),
                         steps + [("remove", 2), ("add", 0), ("point", 3, 0)])
        self.assertEqual(enact(self.SETUP, start + [(1, 4, 0, 0, 0), (2, 4, 3, 0, 0)]),
                         steps + [("place", 2, 0), ("point", 2, 0), ("place", 2, 1), ("drop", True, 0)])

    def test_changes_of_both(self):
        start = [(0, 0, 0, 3, 0), (2, 4, 0, 2, 0)]
        steps = [("add", 1), ("point", 2, 0), ("add", 0), ("point", 3, 0)]
        for over, first in ((0, [("remove", 3)]), (1, []), (2, [("place", 3, 1)])):
            for last, then in ((0, [("remove", 2)]), (1, [("place", 2, 0)]), (2, [])):
                self.assertEqual(enact(self.SETUP, start + [(over, last, 2, 0, 0)]), steps + first + then + [("out", 0)])

    def test_the_last_one_entered_that_is_not_the_one_pointed_at(self):
        scenario = [(0, 0, 0, 3, 0), (2, 4, 0, 3, 1), (2, 2, 3, 0, 0), (0, 2, 0, 1, 0)]
        self.assertEqual(enact(self.SETUP, scenario), [
            ("add", 1), ("point", 2, 0), ("add", 1), ("point", 3, 1), ("drop", True, 0), ("point", 2, 0)])
        scenario = [(0, 0, 0, 3, 0), (2, 4, 0, 3, 0), (2, 4, 3, 0, 0), (0, 2, 0, 1, 0)]
        self.assertEqual(enact(self.SETUP, scenario)[-1], ("point", 3, 0))

    def test_not_possible(self):
        for scenario in ([(0, 0, 0, 0, 0)], [(0, 0, 0, 2, 8)], [(1, 0, 0, 2, 0)], [(0, 0, 0, 2, 0), (1, 4, 0, 2, 0)],
                         [(0, 0, 0, 4, 0), (0, 0, 0, 2, 0)], [(0, 0, 0, 4, 0), (3, 4, 0, 4, 0)], [(0, 0, 7, 0, 0)],
                         [(0, 0, 0, True, 0)], [(0, 0, False, 2, 0)], [()], [[0, 0, 0, 2, 0]]):
            self.assertEqual(refusal(enact, self.SETUP, scenario), "not possible", scenario)

    def test_arguments_stay_and_answers_belong_to_the_caller(self):
        scenario = [(0, 0, 0, 3, 0), (0, 0, 0, 2, 0)]
        first = enact(self.SETUP, scenario)
        self.assertEqual(scenario, [(0, 0, 0, 3, 0), (0, 0, 0, 2, 0)])
        second = enact(self.SETUP, scenario)
        first.clear()
        self.assertEqual(len(second), 5)

    def test_sixty_turns_with_more_than_200_steps_can_be_played(self):
        setup = Setup("root", ["enter"], [])
        scenario = [(0, 0, 0, 3, 0), (2, 4, 0, 3, 1)]
        scenario += [(1, 1, 0, 3, 1), (2, 2, 0, 3, 1), (2, 1, 0, 3, 1), (1, 2, 0, 3, 1)] * 15
        history = enact(setup, scenario)
        self.assertGreater(len(history), 200)
        self.assertEqual(len(play(setup, deaf_listener(), history)), len(scenario))


if __name__ == "__main__":
    unittest.main()
