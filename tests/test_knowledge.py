import unittest
from itertools import product
from random import Random

from dragtold.knowledge import fewest, is_sound_alike, listener_of, made, sound_alike
from dragtold.listeners import first_wrong, is_right_paper, is_wrong, right_paper
from dragtold.scenarios import is_scenario
from dragtold.setups import Listener, Setup
from tests.helpers import (
    KINDS, PLACES, SIGHTS, TROUBLES, all_setups, fields, hears_all, random_listener, random_setup, random_troubles,
    refusal, same_fields, setup_without_doubt, subsets)
from tests.reckoning import SIGNALS, Reckoning, is_hovered, order_of

ZONE = Setup("zone", ["enter", "leave", "drop"], [])
ENTER = ("enter", "inside", False, "none")
LEAVE = ("leave", "inside", False, "none")


def reckoned_scenario(reckoning, row, hovered, length):
    """The first scenario of at most this length of which the row is all that is heard, hovered or not."""
    def hear(at, signals):
        return at + len(signals) if row[at:at + len(signals)] == signals else None

    return reckoning.first_scenario(
        hear, lambda situation, at: at == len(row) and is_hovered(situation) == hovered, length)


class SoundAlikeTest(unittest.TestCase):
    def test_never_doubt(self):
        self.assertIsNone(sound_alike(ZONE, []))
        self.assertIsNone(sound_alike(ZONE, ["silent"]))

    def test_a_target_that_is_removed_is_not_left(self):
        self.assertEqual(sound_alike(ZONE, ["removals"]),
                         ((ENTER,), [(0, 0, 0, 3, 0)], [(0, 0, 0, 3, 0), (0, 0, 0, 2, 0)]))

    def test_a_drop_that_is_not_heard(self):
        setup = Setup("zone", ["enter", "leave"], [])
        self.assertEqual(sound_alike(setup, []), ((ENTER,), [(0, 0, 0, 3, 0)], [(0, 0, 0, 3, 0), (2, 4, 3, 0, 0)]))

    def test_no_kinds(self):
        for place, sights in product(PLACES, subsets(SIGHTS)):
            for troubles in ([], TROUBLES):
                setup = Setup(place, [], sights)
                self.assertEqual(sound_alike(setup, troubles), ((), [(0, 0, 0, 3, 0)], []))
                self.assertIs(is_sound_alike(setup, troubles, (), [(0, 0, 0, 3, 0)], []), True)

    def test_all_troubles(self):
        over = ("over", "inside", True, "none")
        self.assertEqual(sound_alike(hears_all(), TROUBLES), (
            (ENTER, over), [(0, 0, 0, 3, 0)], [(0, 0, 0, 3, 0), (0, 0, 2, 0, 0)]))
        self.assertEqual(sound_alike(hears_all("zone"), TROUBLES), ((), [(0, 0, 0, 3, 3)], []))
        self.assertEqual(sound_alike(hears_all("zone"), TROUBLES[::-1]), ((), [(0, 0, 0, 3, 3)], []))

    def test_whether_there_is_doubt_by_a_second_reckoning(self):
        random = Random(19)
        told = set()
        cases = [(setup, random_troubles(random)) for setup in random.sample(all_setups(), 70)]
        cases += [setup_without_doubt(random)[:2] for _ in range(12)]
        for setup, troubles in cases:
            found = sound_alike(setup, troubles)
            self.assertEqual(found is not None, Reckoning(setup, troubles).is_doubtful(), (fields(setup), troubles))
            told.add(found is None)
        self.assertEqual(told, {True, False})

    def test_first_rows_and_scenarios_by_a_second_reckoning(self):
        random = Random(20)
        lengths = set()
        cases = [(random_setup(random), random_troubles(random)) for _ in range(60)]
        cases += [(Setup("capture", ["enter", "leave", "drop"], []), ["silent", "outs"]),
                  (Setup("root", ["enter", "leave", "drop", "end"], ["own"]), ["slips", "outs"]),
                  (Setup("capture", ["over", "leave", "drop"], ["own", "same", "related"]), ["removals"])]
        for setup, troubles in cases:
            found = sound_alike(setup, troubles)
            if found is None:
                continue
            self.assertIs(type(found), tuple)
            row, hovered, free = found
            reckoning = Reckoning(setup, troubles)
            self.assertEqual(reckoning.first_doubt(len(row)), row, (fields(setup), troubles))
            self.assertEqual(reckoned_scenario(reckoning, row, True, len(hovered)), hovered)
            self.assertEqual(reckoned_scenario(reckoning, row, False, len(free)), free)
            self.assertIs(is_sound_alike(setup, troubles, row, hovered, free), True)
            lengths.add(len(row))
        self.assertTrue({0, 1, 2, 3} <= lengths, lengths)

    def test_answers_belong_to_the_caller_and_arguments_stay(self):
        troubles = ["silent", "removals"]
        first = sound_alike(ZONE, troubles)
        for scenario in sound_alike(ZONE, troubles)[1:]:
            scenario.clear()
        self.assertEqual(sound_alike(ZONE, troubles), first)
        self.assertEqual(troubles, ["silent", "removals"])


class IsSoundAlikeTest(unittest.TestCase):
    ROW = (ENTER,)
    HOVERED = [(0, 0, 0, 3, 0)]
    FREE = [(0, 0, 0, 3, 0), (0, 0, 0, 2, 0)]

    def is_one(self, row, hovered, free, troubles=("removals",)):
        return is_sound_alike(ZONE, list(troubles), row, hovered, free)

    def test_right_ones(self):
        self.assertIs(self.is_one(self.ROW, self.HOVERED, self.FREE), True)
        self.assertIs(self.is_one(self.ROW, self.HOVERED, self.FREE, TROUBLES), True)
        longer = [(0, 0, 0, 2, 0), (1, 0, 0, 4, 0)]
        self.assertIs(self.is_one(self.ROW, longer, longer + [(3, 4, 0, 0, 0), (0, 3, 0, 1, 0)]), False)
        self.assertIs(self.is_one(self.ROW, longer, self.FREE + [(1, 0, 0, 0, 0)]), True)
        row = (ENTER, LEAVE)
        self.assertIs(self.is_one(row, [(0, 0, 0, 3, 0), (2, 4, 0, 2, 0)], self.HOVERED), False)

    def test_another_row(self):
        for row in ((), (LEAVE,), (ENTER, ENTER), (ENTER, LEAVE), (("enter", "zone", False, "none"),),
                    (("enter", "inside", True, "none"),), (("enter", "inside", False, "inside"),)):
            self.assertIs(self.is_one(row, self.HOVERED, self.FREE), False, row)

    def test_no_rows_of_signals(self):
        for row in (None, 0, "", [ENTER], (None,), (0,), ((),), (ENTER[:3],), (list(ENTER),),
                    (("enter", "inside", 0, "none"),), (("enter", "inside", False, None),), ENTER):
            self.assertIs(self.is_one(row, self.HOVERED, self.FREE), False, row)

    def test_hovered_and_free_are_not_exchanged(self):
        self.assertIs(self.is_one(self.ROW, self.FREE, self.HOVERED), False)
        self.assertIs(self.is_one(self.ROW, self.HOVERED, self.HOVERED), False)
        self.assertIs(self.is_one(self.ROW, self.FREE, self.FREE), False)

    def test_other_scenarios(self):
        self.assertIs(self.is_one(self.ROW, [], self.FREE), False)
        self.assertIs(self.is_one(self.ROW, self.HOVERED, []), False)
        self.assertIs(self.is_one((), [], []), False)
        for at, turn in enumerate(self.FREE):
            for place in range(5):
                changed = turn[:place] + (turn[place] + 1,) + turn[place + 1:]
                self.assertIs(self.is_one(self.ROW, self.HOVERED, self.FREE[:at] + [changed] + self.FREE[at + 1:]),
                              False, changed)

    def test_no_scenarios(self):
        for scenario in (None, 0, tuple(self.FREE), [None], [(0, 0, 0, 3)], [list(turn) for turn in self.FREE],
                         [(0, 0, 0, 3, False)], [(0, 0, 0, 3, 0), (1, 0, 0, 2, 0)]):
            self.assertIs(self.is_one(self.ROW, self.HOVERED, scenario), False, scenario)
            self.assertIs(self.is_one(self.ROW, scenario, self.FREE), False, scenario)

    def test_troubles_are_needed(self):
        for troubles in ([], TROUBLES[1:]):
            self.assertIs(self.is_one(self.ROW, self.HOVERED, self.FREE, troubles), False)

    def test_by_a_second_reckoning(self):
        random = Random(21)
        told = {True: 0, False: 0}
        for _ in range(60):
            setup, troubles = random_setup(random), random_troubles(random)
            reckoning = Reckoning(setup, troubles)
            for _ in range(20):
                pair, heard = [], []
                for _ in range(2):
                    scenario, situation = [], (0, 0)
                    for _ in range(random.randrange(4)):
                        turn, situation, _ = random.choice(reckoning.turns(situation))
                        scenario.append(turn)
                    pair.append(scenario)
                    heard.append(reckoning.heard_in(scenario))
                expected = heard[0][1] == heard[1][1] and is_hovered(heard[0][0]) and not is_hovered(heard[1][0])
                self.assertIs(is_sound_alike(setup, troubles, heard[0][1], *pair), expected)
                told[expected] += 1
        self.assertGreater(min(told.values()), 20)


def reckoned_made(setup, troubles):
    """The made listener by points 20 and 21, for rows one by one."""
    reckoning = Reckoning(setup, troubles)
    rows = [()]
    known = [reckoning.known(())]
    rules = []
    for state, row in enumerate(rows):
        for longer in reckoning.longer_rows(row):
            following = reckoning.known(longer)
            if following not in known:
                known.append(following)
                rows.append(longer)
            rules.append((state, *longer[-1], known.index(following)))
    on = [state for state, row in enumerate(rows) if reckoning.verdict(row) == "hovered"]
    return Listener(len(rows), on, rules)


class MadeUpSurvey:
    """What stands for a survey with some number of states and rules."""

    def __init__(self, states, rules):
        self.rows = {((0, at, ()),): (ENTER,) * at for at in range(states)}
        self.leads = [(((0, at % states, ()),), ENTER, ((0, 0, ()),)) for at in range(rules)]


class MadeTest(unittest.TestCase):
    def test_over_and_end(self):
        found = made(Setup("root", ["over", "end"], []), [])
        self.assertEqual((found.states, found.on), (3, [2]))
        self.assertEqual(found.rules, [
            (at, *signal) for at in range(3) for signal in (
                ("over", "outside", False, "none", 1), ("over", "inside", False, "none", 2),
                ("end", "outside", False, "none", 0))])

    def test_enter_leave_and_drop_at_the_zone(self):
        found = made(ZONE, [])
        # In the state 2 a leave event is to come; 3 is like 0, but something was entered.
        self.assertEqual((found.states, found.on), (4, [1]))
        drop = ("drop", "inside", False, "none")
        self.assertEqual(found.rules, [
            (0, *ENTER, 1), (1, *ENTER, 2), (1, *LEAVE, 3), (1, *drop, 3), (2, *LEAVE, 1), (3, *ENTER, 1)])

    def test_doubt(self):
        self.assertEqual(refusal(made, ZONE, ["removals"]), "doubt")
        self.assertEqual(refusal(made, Setup("capture", [], SIGHTS), []), "doubt")
        self.assertEqual(refusal(made, hears_all(), TROUBLES), "doubt")

    def test_refused_just_where_there_is_doubt(self):
        random = Random(22)
        for setup in all_setups():
            troubles = random_troubles(random)
            expected = None if sound_alike(setup, troubles) is None else "doubt"
            self.assertEqual(refusal(made, setup, troubles), expected)

    def test_by_a_second_reckoning(self):
        random = Random(23)
        sizes = set()
        for _ in range(25):
            setup, troubles, found = setup_without_doubt(random)
            same_fields(self, found, reckoned_made(setup, troubles))
            sizes.add(found.states)
        self.assertGreater(max(sizes), 15)

    def test_it_is_right(self):
        random = Random(24)
        for _ in range(60):
            setup, troubles, found = setup_without_doubt(random)
            self.assertIsNone(first_wrong(setup, found, troubles))
            paper = right_paper(setup, found, troubles)
            self.assertIs(is_right_paper(setup, found, troubles, paper), True)

    def test_the_most_states(self):
        """24 states are the most that any setup with any troubles needs."""
        found = made(Setup("capture", KINDS, ["own", "same"]), ["slips", "outs"])
        self.assertEqual((found.states, len(found.rules)), (24, 69))
        self.assertIsNone(first_wrong(Setup("capture", KINDS, ["own", "same"]), found, ["slips", "outs"]))

    def test_sixty_states_and_1200_rules_and_more(self):
        """No setup leads there: so what is known is made up here."""
        found = listener_of(MadeUpSurvey(60, 1200))
        self.assertEqual((found.states, found.on, len(found.rules)), (60, [], 1200))
        for states, rules in ((61, 0), (61, 1200), (60, 1201), (2, 1201), (100, 2000)):
            self.assertEqual(refusal(listener_of, MadeUpSurvey(states, rules)), "too many states")

    def test_answers_belong_to_the_caller_and_arguments_stay(self):
        troubles = ["silent", "slips"]
        setup = Setup("capture", KINDS, SIGHTS)
        first = made(setup, troubles)
        made(setup, troubles).rules.clear()
        same_fields(self, made(setup, troubles), first)
        same_fields(self, made(setup, troubles[::-1]), first)
        self.assertEqual((troubles, fields(setup)), (["silent", "slips"], fields(Setup("capture", KINDS, SIGHTS))))


class FewestTest(unittest.TestCase):
    WEIGHTS = dict(zip(KINDS + SIGHTS, (1, 2, 4, 8, 16, 32, 64, 128)))

    def weight(self, setup):
        return sum(self.WEIGHTS[word] for word in setup.kinds + setup.sights)

    def reckoned(self, setup, troubles):
        """For each choice of words: no doubt, and doubt for each smaller one."""
        right = []
        for kinds, sights in product(subsets(setup.kinds), subsets(setup.sights)):
            if sound_alike(Setup(setup.place, kinds, sights), troubles) is None:
                right.append(set(kinds) | set(sights))
        least = [words for words in right if not any(other < words for other in right)]
        return sorted(([word for word in KINDS + SIGHTS if word in words] for words in least),
                      key=lambda words: sum(self.WEIGHTS[word] for word in words))

    def test_at_the_zone(self):
        found = fewest(hears_all("zone"), [])
        self.assertEqual([(setup.place, setup.kinds, setup.sights) for setup in found],
                         [("zone", kinds, sights) for kinds, sights in self.at_the_zone()])

    def at_the_zone(self):
        words = self.reckoned(hears_all("zone"), [])
        return [(tuple(word for word in some if word in KINDS), tuple(word for word in some if word in SIGHTS))
                for some in words]

    def test_known_ones(self):
        told = [(setup.kinds, setup.sights) for setup in fewest(Setup("root", ["over", "leave", "end"], SIGHTS), [])]
        self.assertEqual(told, [(("over", "end"), ())])
        told = [(setup.kinds, setup.sights) for setup in fewest(ZONE, [])]
        self.assertEqual(told, [(("enter", "leave", "drop"), ())])
        self.assertEqual(fewest(ZONE, ["removals"]), [])
        self.assertEqual(fewest(Setup("root", [], []), []), [])
        self.assertEqual(fewest(hears_all(), TROUBLES), [])

    def test_by_a_second_reckoning(self):
        random = Random(25)
        lengths = set()
        cases = [(hears_all(place), troubles) for place in PLACES for troubles in (
            [], ["slips"], ["removals"], ["moves", "silent"], ["outs", "stops"], TROUBLES, TROUBLES[::-1])]
        cases += [setup_without_doubt(random)[:2] for _ in range(25)]
        for setup, troubles in cases:
            found = fewest(setup, troubles)
            self.assertEqual([list(each.kinds + each.sights) for each in found], self.reckoned(setup, troubles))
            self.assertTrue(all(type(each) is Setup and each.place == setup.place for each in found))
            weights = [self.weight(each) for each in found]
            self.assertEqual(weights, sorted(set(weights)))
            lengths.add(len(found))
        self.assertTrue({0, 1} < lengths, lengths)

    def test_answers_belong_to_the_caller_and_arguments_stay(self):
        setup = hears_all()
        first = [fields(each) for each in fewest(setup, [])]
        fewest(setup, [])[0].kinds = ()
        fewest(setup, []).clear()
        self.assertEqual([fields(each) for each in fewest(setup, [])], first)
        self.assertEqual(fields(setup), fields(hears_all()))


class SignalsTest(unittest.TestCase):
    def test_the_order_of_rows(self):
        """Rows are found in this order: the first doubt is not that of a later kind or side."""
        self.assertEqual(len(set(SIGNALS)), 90)
        random = Random(26)
        for _ in range(30):
            setup, troubles, listener = setup_without_doubt(random)
            for state in range(listener.states):
                signals = [rule[1:5] for rule in listener.rules if rule[0] == state]
                self.assertEqual(signals, sorted(signals, key=SIGNALS.index))
            found = []
            for rule in listener.rules:
                if rule[5] not in found and rule[5] != 0:
                    found.append(rule[5])
            self.assertEqual(found, list(range(1, listener.states)))
        self.assertLess(order_of((SIGNALS[5],)), order_of((SIGNALS[0], SIGNALS[0])))


class EachListenerTest(unittest.TestCase):
    """Where there is doubt, each listener whatever is wrong behind one of the two scenarios."""

    def test_listeners_where_there_is_doubt(self):
        random = Random(27)
        for setup in random.sample(all_setups(), 150):
            troubles = random_troubles(random)
            found = sound_alike(setup, troubles)
            if found is None:
                continue
            _, hovered, free = found
            for scenario in (hovered, free):
                self.assertIs(is_scenario(setup, scenario, troubles), True)
            for _ in range(4):
                listener = random_listener(random, random.randrange(1, 61), 30)
                wrong = [is_wrong(setup, listener, scenario, troubles) for scenario in (hovered, free)]
                self.assertEqual(sorted(wrong), [False, True])
                self.assertIsNone(right_paper(setup, listener, troubles))
                first = first_wrong(setup, listener, troubles)
                at_most = hovered if wrong[0] else free
                self.assertLessEqual((len(first), first), (len(at_most), at_most))


if __name__ == "__main__":
    unittest.main()
