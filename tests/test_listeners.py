import unittest
from random import Random

from dragtold.listeners import (
    first_difference, first_wrong, is_right_paper, is_same_paper, is_wrong, merged, right_paper, same_paper)
from dragtold.scenarios import is_scenario
from dragtold.setups import Listener, Setup, next_state, sample
from tests.helpers import (
    KINDS, SIGHTS, SITUATIONS, TROUBLES, fields, hears_all, nearly_made, random_listener, random_setup, random_troubles,
    refusal, same_fields)
from tests.reckoning import SIGNALS, Reckoning, is_hovered, state_behind

ROOT = Setup("root", ["enter", "leave", "drop", "end"], [])
ZONE = Setup("zone", ["enter", "leave", "drop"], [])
SAMPLES = ("simple", "counting", "latest", "over", "related")
ALWAYS_ON = Listener(1, [0], [])
NEVER_ON = Listener(1, [], [])


def reckoned_first_wrong(setup, listener, troubles, length):
    return Reckoning(setup, troubles).first_scenario(
        lambda state, signals: state_behind(listener, state, signals),
        lambda situation, state: (state in listener.on) != is_hovered(situation), length)


def reckoned_right_paper(setup, listener, troubles):
    found = Reckoning(setup, troubles).reached(lambda state, signals: state_behind(listener, state, signals))
    if any((state in listener.on) != is_hovered(situation) for situation, state in found):
        return None
    return sorted((*situation, state) for situation, state in found)


def reckoned_difference(setup, one, other, troubles, length):
    """States of both are written as one number."""
    def hear(place, signals):
        state, beside = place % 60, place // 60
        return state_behind(one, state, signals) + 60 * state_behind(other, beside, signals)

    return Reckoning(setup, troubles).first_scenario(
        hear, lambda situation, place: (place % 60 in one.on) != (place // 60 in other.on), length)


def random_cases(seed, many):
    """Setups, listeners and troubles: listeners that are nearly right, samples, and random ones of a few states."""
    random = Random(seed)
    for at in range(many):
        if at % 2 == 0:
            yield nearly_made(random)
            continue
        listener = sample(random.choice(SAMPLES))
        if random.random() < 0.5:
            listener = random_listener(random, random.randrange(1, 5), random.randrange(12))
            listener.on = [state for state in listener.on if state]
        yield random_setup(random), listener, random_troubles(random)


class FirstWrongTest(unittest.TestCase):
    def test_examples(self):
        self.assertEqual(first_wrong(ROOT, sample("simple"), []), [(0, 0, 0, 2, 0)])
        self.assertEqual(first_wrong(ZONE, sample("simple"), []), [(0, 0, 0, 3, 0), (2, 4, 0, 3, 0)])
        self.assertIsNone(first_wrong(ZONE, sample("counting"), []))
        self.assertEqual(first_wrong(ZONE, sample("counting"), ["removals"]), [(0, 0, 0, 3, 0), (0, 0, 0, 2, 0)])

    def test_wrong_behind_the_empty_scenario(self):
        self.assertEqual(first_wrong(ZONE, ALWAYS_ON, []), [])
        self.assertEqual(first_wrong(hears_all(), ALWAYS_ON, TROUBLES), [])

    def test_no_kinds(self):
        for place in ("zone", "root", "capture"):
            self.assertEqual(first_wrong(Setup(place, [], SIGHTS), NEVER_ON, []), [(0, 0, 0, 3, 0)])
            self.assertEqual(first_wrong(Setup(place, [], []), ALWAYS_ON, []), [])

    def test_of_turns_that_come_to_the_same_the_first_one(self):
        listener = Listener(2, [], [(None, "enter", "outside", None, None, 1)])
        self.assertEqual(first_wrong(Setup("capture", ["enter"], []), listener, ["stops"]), [(0, 0, 0, 3, 0)])
        missed = Listener(2, [1], [(None, "enter", "inside", None, None, 1), (None, "drop", None, None, None, 0)])
        self.assertEqual(first_wrong(Setup("root", ["enter", "drop"], []), missed, ["stops"]), [(0, 0, 0, 3, 1)])

    def test_by_a_second_reckoning(self):
        told = {}
        for setup, listener, troubles in random_cases(1, 250):
            found = first_wrong(setup, listener, troubles)
            if found is None:
                self.assertIsNotNone(reckoned_right_paper(setup, listener, troubles))
                self.assertIsNone(reckoned_first_wrong(setup, listener, troubles, 3))
            else:
                self.assertEqual(reckoned_first_wrong(setup, listener, troubles, len(found)), found)
                self.assertIs(is_wrong(setup, listener, found, troubles), True)
            length = None if found is None else len(found)
            told[length] = told.get(length, 0) + 1
        self.assertTrue({None, 1, 2, 3} <= set(told), told)

    def test_the_order_of_troubles_has_no_effect(self):
        for setup, listener, troubles in random_cases(2, 40):
            self.assertEqual(first_wrong(setup, listener, troubles), first_wrong(setup, listener, troubles[::-1]))

    def test_sixty_states(self):
        """On rightly for 58 over events at the zone; behind one more it is off there."""
        setup = Setup("zone", ["enter", "over", "leave", "drop"], ["own"])
        rules = [(None, "over", "inside", None, None, 59), (None, "leave", None, None, None, 0),
                 (None, "drop", None, None, None, 0)]
        rules += [(at, "over", "zone", None, None, (at + 1) % 59) for at in range(59)]
        rules += [(59, "over", "zone", None, None, 1)]
        listener = Listener(60, list(range(1, 60)), rules)
        found = first_wrong(setup, listener, ["silent"])
        self.assertEqual(found, [(0, 0, 0, 4, 0)] + [(3, 4, 0, 0, 0)] * 58)
        self.assertEqual(found, reckoned_first_wrong(setup, listener, ["silent"], 59))
        self.assertIsNone(first_wrong(setup, Listener(60, list(range(1, 60)), rules[:-2] + rules[-1:]), []))

    def test_answers_belong_to_the_caller_and_arguments_stay(self):
        listener, troubles = sample("counting"), ["slips", "removals"]
        before = fields(sample("counting"))
        found = first_wrong(ZONE, listener, troubles)
        first_wrong(ZONE, listener, troubles).clear()
        self.assertEqual(first_wrong(ZONE, listener, troubles), found)
        self.assertEqual((fields(listener), troubles), (before, ["slips", "removals"]))


class IsWrongTest(unittest.TestCase):
    SCENARIO = [(0, 0, 0, 3, 0), (2, 4, 0, 3, 0)]

    def test_wrong_ones(self):
        self.assertIs(is_wrong(ZONE, sample("simple"), self.SCENARIO, []), True)
        self.assertIs(is_wrong(ZONE, sample("simple"), self.SCENARIO, TROUBLES), True)
        self.assertIs(is_wrong(ZONE, ALWAYS_ON, [], []), True)
        longer = self.SCENARIO + [(2, 4, 0, 0, 0)]
        self.assertIs(is_wrong(ZONE, sample("simple"), longer, []), True)

    def test_right_ones(self):
        self.assertIs(is_wrong(ZONE, sample("counting"), self.SCENARIO, []), False)
        self.assertIs(is_wrong(ZONE, sample("simple"), self.SCENARIO[:1], []), False)
        self.assertIs(is_wrong(ZONE, sample("simple"), [], []), False)
        self.assertIs(is_wrong(ZONE, sample("simple"), self.SCENARIO + [(2, 4, 3, 0, 0)], []), False)

    def test_no_scenarios(self):
        simple = sample("simple")
        for scenario in ([(0, 0, 0, 3, 0), (2, 3, 0, 3, 0)], [(0, 0, 0, 0, 0)], [(0, 0, 0, 3)], [None], None, 3,
                         tuple(self.SCENARIO), [list(turn) for turn in self.SCENARIO], [(0, 0, 0, 3, False)]):
            self.assertIs(is_wrong(ZONE, simple, scenario, TROUBLES), False, scenario)
            self.assertIs(is_wrong(ZONE, ALWAYS_ON, scenario, TROUBLES), False, scenario)

    def test_troubles_are_needed(self):
        scenario = [(0, 0, 0, 3, 0), (0, 0, 0, 2, 0)]
        self.assertIs(is_wrong(ZONE, sample("counting"), scenario, ["outs", "removals"]), True)
        self.assertIs(is_wrong(ZONE, sample("counting"), scenario, ["outs", "moves"]), False)

    def test_by_a_second_reckoning(self):
        random = Random(3)
        for setup, listener, troubles in random_cases(3, 100):
            reckoning, scenario, situation = Reckoning(setup, troubles), [], (0, 0)
            for _ in range(6):
                turn, situation, _ = random.choice(reckoning.turns(situation))
                scenario.append(turn)
                state = state_behind(listener, 0, reckoning.heard_in(scenario)[1])
                self.assertIs(is_wrong(setup, listener, scenario, troubles),
                              (state in listener.on) != is_hovered(situation))

    def test_sixty_turns(self):
        scenario = [(0, 0, 0, 3, 0)] + [(2, 4, 0, 3, 0)] * 59
        self.assertIs(is_wrong(ZONE, sample("counting"), scenario, []), False)
        self.assertIs(is_wrong(ZONE, sample("simple"), scenario, []), True)


class RightPaperTest(unittest.TestCase):
    def test_the_least_one(self):
        paper = right_paper(ZONE, sample("counting"), [])
        self.assertEqual(paper[0], (0, 0, 0))
        self.assertEqual(paper, sorted(set(paper)))
        self.assertTrue(all(type(triple) is tuple and len(triple) == 3 for triple in paper))
        self.assertEqual(paper, reckoned_right_paper(ZONE, sample("counting"), []))
        self.assertIs(is_right_paper(ZONE, sample("counting"), [], paper), True)

    def test_none_for_a_wrong_listener(self):
        self.assertIsNone(right_paper(ZONE, sample("simple"), []))
        self.assertIsNone(right_paper(ZONE, sample("counting"), ["removals"]))
        self.assertIsNone(right_paper(ZONE, ALWAYS_ON, []))
        self.assertIsNone(right_paper(Setup("capture", [], []), NEVER_ON, []))

    def test_by_a_second_reckoning(self):
        right = 0
        for setup, listener, troubles in random_cases(4, 150):
            paper = right_paper(setup, listener, troubles)
            self.assertEqual(paper, reckoned_right_paper(setup, listener, troubles))
            self.assertEqual(paper is None, first_wrong(setup, listener, troubles) is not None)
            right += paper is not None
        latest = Setup("root", ["enter", "leave", "drop", "end"], ["same"])
        for troubles in ([], ["outs"], ["slips"], ["slips", "outs"]):
            paper = right_paper(latest, sample("latest"), troubles)
            self.assertEqual(paper, reckoned_right_paper(latest, sample("latest"), troubles))
            right += paper is not None
        self.assertGreater(right, 3)

    def test_sixty_states(self):
        # A listener that goes through 20 states outside, and 40 within the zone.
        rules = []
        for at in range(60):
            rules.append((at, "enter", "outside", None, None, (at + 1) % 20))
            rules.append((at, "enter", "inside", None, None, 20 + (at + 1) % 40))
        rules += [(None, "drop", None, None, None, 0), (None, "leave", None, True, None, 0)]
        listener = Listener(60, list(range(20, 60)), rules)
        setup = Setup("capture", KINDS, ["same"])
        paper = right_paper(setup, listener, [])
        self.assertEqual(paper, reckoned_right_paper(setup, listener, []))
        self.assertEqual({state for _, _, state in paper}, set(range(60)))
        self.assertIs(is_right_paper(setup, listener, [], paper), True)
        self.assertIs(is_right_paper(setup, listener, [], paper[:-1]), False)

    def test_answers_belong_to_the_caller(self):
        paper = right_paper(ZONE, sample("counting"), [])
        right_paper(ZONE, sample("counting"), []).pop()
        self.assertEqual(right_paper(ZONE, sample("counting"), []), paper)


def papers_by_the_text(setup, troubles, rows, is_allowed, behind_row):
    """The greatest set of rows that are allowed and closed, by leaving out what is not, again and again."""
    reckoning = Reckoning(setup, troubles)
    kept = {row for row in rows if is_allowed(row)}
    while True:
        closed = set()
        for row in kept:
            if all(following + behind_row(row, signals) in kept for _, following, signals in reckoning.turns(row[:2])):
                closed.add(row)
        if closed == kept:
            return sorted(kept)
        kept = closed


class IsRightPaperTest(unittest.TestCase):
    LISTENER = sample("counting")

    def setUp(self):
        self.paper = right_paper(ZONE, self.LISTENER, [])

    def is_one(self, paper, troubles=()):
        return is_right_paper(ZONE, self.LISTENER, list(troubles), paper)

    def test_a_tuple_left_out(self):
        for at in range(len(self.paper)):
            self.assertIs(self.is_one(self.paper[:at] + self.paper[at + 1:]), False, at)

    def test_a_tuple_twice(self):
        for at in range(len(self.paper)):
            self.assertIs(self.is_one(self.paper[:at] + self.paper[at:at + 1] + self.paper[at:]), False, at)

    def test_out_of_order(self):
        for at in range(len(self.paper) - 1):
            swapped = self.paper[:at] + [self.paper[at + 1], self.paper[at]] + self.paper[at + 2:]
            self.assertIs(self.is_one(swapped), False, at)
        self.assertIs(self.is_one(self.paper[::-1]), False)

    def test_a_tuple_changed(self):
        for at, triple in enumerate(self.paper):
            for place in range(3):
                for step in (-1, 1, 60):
                    changed = triple[:place] + (triple[place] + step,) + triple[place + 1:]
                    paper = sorted(set(self.paper[:at] + [changed] + self.paper[at + 1:]))
                    if len(paper) == len(self.paper):
                        self.assertIs(self.is_one(paper), False, (triple, changed))

    def test_a_tuple_put_in(self):
        """One more is right just if all that it leads to is there."""
        every = [(*situation, state) for situation in SITUATIONS for state in range(3)]
        greatest = papers_by_the_text(
            ZONE, [], every, lambda row: (row[2] in self.LISTENER.on) == is_hovered(row),
            lambda row, signals: (state_behind(self.LISTENER, row[2], signals),))
        self.assertGreater(len(greatest), len(self.paper))
        self.assertIs(self.is_one(greatest), True)
        reckoning = Reckoning(ZONE, [])
        told = set()
        for triple in every:
            if triple not in self.paper:
                expected = (triple[2] in self.LISTENER.on) == is_hovered(triple) and all(
                    following + (state_behind(self.LISTENER, triple[2], signals),) in self.paper + [triple]
                    for _, following, signals in reckoning.turns(triple[:2]))
                self.assertIs(self.is_one(sorted(self.paper + [triple])), expected, triple)
                told.add(expected)
        self.assertEqual(told, {True, False})

    def test_no_situations_and_no_states(self):
        for triple in ((0, 4, 0), (3, 3, 1), (4, 0, 0), (0, 5, 0), (0, 0, 3), (0, 0, 60), (-1, 0, 0), (0, -1, 0),
                       (0, 0, -1)):
            self.assertIs(self.is_one(sorted(self.paper + [triple])), False, triple)

    def test_no_triples(self):
        for row in ((0, 0), (0, 0, 0, 0), (), None, 0, "000", (0, 0, None), (0, "0", 0)):
            self.assertIs(self.is_one([row] + self.paper), False, row)
            self.assertIs(self.is_one(self.paper + [row]), False, row)
        for first in ([0, 0, 0], (False, 0, 0), (0, 0, False), (0, False, 0), ((0, 0), 0), (0.0, 0, 0)):
            self.assertIs(self.is_one([first] + self.paper[1:]), False, first)

    def test_empty_and_no_lists(self):
        self.assertIs(self.is_one([]), False)
        for paper in (None, 0, tuple(self.paper), "", set(self.paper), {row: True for row in self.paper}):
            self.assertIs(self.is_one(paper), False)

    def test_one_without_the_first_triple(self):
        """It may be closed, but it is no paper."""
        never = Listener(2, [1], [(None, None, None, None, None, 1)])
        setup = Setup("zone", [], [])
        self.assertIs(is_right_paper(setup, never, [], [(0, 0, 0)]), False)
        shifted = Listener(3, [1], [
            (None, "enter", None, None, None, 1), (1, "drop", None, None, None, 2), (2, "drop", None, None, None, 2)])
        self.assertIs(is_right_paper(ZONE, shifted, [], [(0, 0, 2)]), False)
        self.assertIs(self.is_one(self.paper[1:]), False)

    def test_other_troubles_and_setups(self):
        self.assertIs(self.is_one(self.paper, ["removals"]), False)
        self.assertIs(self.is_one(self.paper, ["silent"]), True)
        self.assertIs(is_right_paper(ROOT, self.LISTENER, [], self.paper), False)
        self.assertIs(is_right_paper(ZONE, sample("simple"), [], self.paper), False)

    def test_a_paper_for_more_troubles_holds_for_fewer(self):
        setup = Setup("root", ["enter", "leave", "drop", "end"], ["same"])
        listener = sample("latest")
        paper = right_paper(setup, listener, ["outs", "slips"])
        if paper is not None:
            for troubles in ([], ["outs"], ["slips"], ["slips", "outs"]):
                self.assertIs(is_right_paper(setup, listener, troubles, paper), True)

    def test_papers_of_wrong_listeners(self):
        """No list is one: neither all that scenarios lead to, nor each that is on rightly."""
        for setup, listener, troubles in random_cases(6, 60):
            every = [(*situation, state) for situation in SITUATIONS for state in range(listener.states)]
            greatest = papers_by_the_text(
                setup, troubles, every, lambda row: (row[2] in listener.on) == is_hovered(row),
                lambda row, signals: (state_behind(listener, row[2], signals),))
            right = right_paper(setup, listener, troubles)
            self.assertIs(is_right_paper(setup, listener, troubles, greatest), right is not None)
            self.assertIs(is_right_paper(setup, listener, troubles, every), False)

    def test_arguments_stay(self):
        copy = list(self.paper)
        self.is_one(copy)
        self.assertEqual(copy, self.paper)


class DifferenceTest(unittest.TestCase):
    def test_alike(self):
        for name in SAMPLES:
            self.assertIsNone(first_difference(hears_all(), sample(name), sample(name), TROUBLES))

    def test_first_ones(self):
        simple, counting = sample("simple"), sample("counting")
        scenario = [(0, 0, 0, 3, 0), (2, 4, 0, 3, 0)]
        self.assertEqual(first_difference(ZONE, simple, counting, []), scenario)
        self.assertEqual(first_difference(ZONE, counting, simple, []), scenario)
        self.assertEqual(first_difference(ZONE, ALWAYS_ON, NEVER_ON, []), [])
        self.assertIsNone(first_difference(Setup("zone", [], []), simple, counting, TROUBLES))

    def test_on_alike_though_both_are_wrong(self):
        self.assertIsNone(first_difference(hears_all(), NEVER_ON, Listener(2, [], []), TROUBLES))
        self.assertEqual(same_paper(Setup("zone", [], []), ALWAYS_ON, Listener(2, [0], []), []),
                         [(0, 0, 0, 0), (1, 0, 0, 0), (2, 0, 0, 0), (3, 0, 0, 0)])

    def test_by_a_second_reckoning(self):
        random = Random(7)
        told = {}
        for setup, one, troubles in random_cases(7, 150):
            other = random_listener(random, random.randrange(1, 4), 5)
            if random.random() < 0.4:
                other = Listener(one.states, one.on, one.rules[1:])
            found = first_difference(setup, one, other, troubles)
            paper = same_paper(setup, one, other, troubles)
            self.assertEqual(paper is None, found is not None)
            if found is None:
                self.assertIsNone(reckoned_difference(setup, one, other, troubles, 3))
            else:
                self.assertIs(is_scenario(setup, found, troubles), True)
                self.assertEqual(reckoned_difference(setup, one, other, troubles, len(found)), found)
            length = None if found is None else len(found)
            told[length] = told.get(length, 0) + 1
        self.assertTrue({None, 0, 1, 2} <= set(told), told)

    def test_the_listeners_have_different_numbers_of_states(self):
        setup = Setup("root", ["over"], [])
        by_two = Listener(2, [1], [(0, "over", None, None, None, 1), (1, "over", None, None, None, 0)])
        by_six = Listener(6, [1, 3, 5], [(at, "over", None, None, None, (at + 1) % 6) for at in range(6)])
        odd = Listener(6, [1, 3], by_six.rules)
        self.assertIsNone(first_difference(setup, by_two, by_six, TROUBLES))
        self.assertIsNone(first_difference(setup, by_six, by_two, TROUBLES))
        first = (0, 0, 0, 2, 0)
        for one, other in ((by_two, odd), (odd, by_two)):
            self.assertEqual(first_difference(setup, one, other, []), [first] + [(1, 0, 0, 0, 0)] * 4)
        # In the first situation again behind a drop; over the root, the inside and the zone at any time.
        every = sorted((over, 0, at % 2, at) for over in range(4) for at in range(6))
        self.assertEqual(same_paper(setup, by_two, by_six, []), every)
        self.assertEqual(same_paper(setup, by_six, by_two, []),
                         sorted((over, last, beside, state) for over, last, state, beside in every))


class SamePaperTest(unittest.TestCase):
    ONE = sample("counting")
    OTHER = Listener(4, [1, 2, 3], sample("counting").rules + [
        (3, "enter", None, None, None, 2), (3, "leave", None, None, None, 0)])
    SETUP = Setup("root", ["enter", "leave", "drop"], ["own"])

    def paper(self, troubles=()):
        return same_paper(self.SETUP, self.ONE, self.OTHER, list(troubles))

    def is_one(self, paper, troubles=()):
        return is_same_paper(self.SETUP, self.ONE, self.OTHER, list(troubles), paper)

    def reckoned(self, setup, one, other, troubles):
        found = Reckoning(setup, troubles).reached(
            lambda place, signals: state_behind(one, place % 60, signals)
            + 60 * state_behind(other, place // 60, signals))
        if any((place % 60 in one.on) != (place // 60 in other.on) for _, place in found):
            return None
        return sorted((*situation, place % 60, place // 60) for situation, place in found)

    def test_the_least_one(self):
        for troubles in ([], ["removals"], TROUBLES[:3]):
            paper = self.paper(troubles)
            self.assertEqual(paper, self.reckoned(self.SETUP, self.ONE, self.OTHER, troubles))
            self.assertIs(self.is_one(paper, troubles), True)

    def test_by_a_second_reckoning(self):
        random = Random(8)
        papers = 0
        for setup, one, troubles in random_cases(8, 80):
            other = random_listener(random, 3, 4)
            if random.random() < 0.7:
                other = merged(one) if one.states <= 12 else Listener(60, one.on, one.rules)
            paper = same_paper(setup, one, other, troubles)
            self.assertEqual(paper, self.reckoned(setup, one, other, troubles))
            if paper is not None:
                papers += 1
                self.assertIs(is_same_paper(setup, one, other, troubles, paper), True)
                self.assertIs(is_same_paper(setup, one, other, troubles, paper[:-1]), False)
        self.assertGreater(papers, 30)

    def test_changed_papers(self):
        paper = self.paper()
        for at, row in enumerate(paper):
            self.assertIs(self.is_one(paper[:at] + paper[at + 1:]), False)
            self.assertIs(self.is_one(paper[:at] + [row] + paper[at:]), False)
            self.assertIs(self.is_one(paper[:at] + [list(row)] + paper[at + 1:]), False)
            for place in range(4):
                for step in (-1, 1, 60):
                    changed = row[:place] + (row[place] + step,) + row[place + 1:]
                    other = sorted(set(paper[:at] + [changed] + paper[at + 1:]))
                    if len(other) == len(paper):
                        self.assertIs(self.is_one(other), False, (row, changed))
        self.assertIs(self.is_one(paper[::-1]), False)
        self.assertIs(self.is_one([]), False)
        self.assertIs(self.is_one(tuple(paper)), False)
        self.assertIs(self.is_one(None), False)

    def test_papers_that_are_not_the_least(self):
        every = [(*situation, state, beside) for situation in SITUATIONS for state in range(3) for beside in range(4)]

        def behind_row(row, signals):
            return state_behind(self.ONE, row[2], signals), state_behind(self.OTHER, row[3], signals)

        def is_allowed(row):
            return (row[2] in self.ONE.on) == (row[3] in self.OTHER.on)

        greatest = papers_by_the_text(self.SETUP, [], every, is_allowed, behind_row)
        least = self.paper()
        self.assertTrue(set(least) < set(greatest))
        self.assertIs(self.is_one(greatest), True)
        self.assertIs(self.is_one(every), False)
        # The other listener has a state that is never met, but does what another one does.
        self.assertTrue(any(row[3] == 3 for row in greatest))
        reckoning, told = Reckoning(self.SETUP, []), set()
        for row in every:
            if row not in least:
                expected = is_allowed(row) and all(
                    following + behind_row(row, signals) in least + [row]
                    for _, following, signals in reckoning.turns(row[:2]))
                self.assertIs(self.is_one(sorted(least + [row])), expected, row)
                told.add(expected)
        self.assertEqual(told, {True, False})

    def test_states_of_the_one_and_the_other(self):
        paper = self.paper()
        self.assertIs(self.is_one(sorted(paper + [(0, 0, 3, 0)])), False)
        self.assertIs(self.is_one(sorted(paper + [(0, 0, 0, 4)])), False)
        self.assertTrue(all(state == beside for _, _, state, beside in paper))
        self.assertIs(is_same_paper(self.SETUP, self.OTHER, self.ONE, [], paper), True)
        self.assertIs(is_same_paper(self.SETUP, self.OTHER, self.OTHER, [], paper), True)
        self.assertIs(is_same_paper(self.SETUP, self.OTHER, sample("simple"), [], paper), False)

    def test_no_rows_of_it(self):
        paper = self.paper()
        for row in ((0, 0, 0), (0, 0, 0, 0, 0), (), None, 0, (0, 4, 0, 0), (3, 3, 1, 1), (0, 0, None, 0)):
            self.assertIs(self.is_one([row] + paper), False)
            self.assertIs(self.is_one(paper + [row]), False)
        self.assertIs(self.is_one([(0, 0, 0, False)] + paper[1:]), False)

    def test_sixty_states(self):
        random = Random(60)
        one, other = [
            Listener(60, [], [(at // 20, *random.choice(SIGNALS), random.randrange(60)) for at in range(1200)])
            for _ in range(2)]
        for place in ("zone", "root", "capture"):
            paper = same_paper(hears_all(place), one, other, TROUBLES)
            self.assertGreater(len(paper), 1000)
            middle = len(paper) // 2
            self.assertIs(is_same_paper(hears_all(place), one, other, TROUBLES, paper), True)
            self.assertIs(is_same_paper(hears_all(place), one, other, TROUBLES, paper[:middle] + paper[middle + 1:]),
                          False)
            self.assertIsNone(first_difference(hears_all(place), one, other, TROUBLES))
        other.on = [paper[-1][3]]
        self.assertIsNone(same_paper(hears_all(), one, other, TROUBLES))
        self.assertIs(is_same_paper(hears_all(), one, other, TROUBLES, paper), False)


def alike_states(listener):
    """For each state the least one that does the same, by telling states apart, again and again."""
    many = range(listener.states)
    apart = {(a, b) for a in many for b in many if (a in listener.on) != (b in listener.on)}
    behind = {a: [next_state(listener, a, signal) for signal in SIGNALS] for a in many}
    while True:
        more = {(a, b) for a in many for b in many if any(pair in apart for pair in zip(behind[a], behind[b]))}
        if more <= apart:
            return [min(b for b in many if (a, b) not in apart) for a in many]
        apart |= more


def reckoned_merged(listener):
    least = alike_states(listener)
    found, rules = [least[0]], []
    for state in found:
        for signal in SIGNALS:
            following = least[next_state(listener, state, signal)]
            if following not in found:
                found.append(following)
            if following != state:
                rules.append((found.index(state), *signal, found.index(following)))
    return Listener(len(found), [at for at, state in enumerate(found) if state in listener.on], rules)


class MergedTest(unittest.TestCase):
    def test_simple(self):
        found = merged(sample("simple"))
        self.assertEqual((found.states, found.on), (2, [1]))
        enters = [(0, *signal, 1) for signal in SIGNALS if signal[0] == "enter"]
        ends = [(1, *signal, 0) for signal in SIGNALS if signal[0] in ("leave", "drop", "end")]
        self.assertEqual(found.rules, enters + ends)

    def test_one_state(self):
        for on in ([], [0]):
            same_fields(self, merged(Listener(1, on, [(None, "enter", None, None, None, 0)])), Listener(1, on, []))

    def test_states_that_do_the_same_and_states_that_are_not_found(self):
        rules = [(0, "enter", None, None, None, 1), (1, "enter", None, None, None, 2), (2, "enter", None, None, None, 1),
                 (3, "leave", None, None, None, 4)]
        found = merged(Listener(5, [1, 2, 4], rules))
        self.assertEqual((found.states, found.on), (2, [1]))
        self.assertEqual(merged(Listener(5, [0, 1, 2, 3, 4], rules)).states, 1)
        self.assertEqual(merged(Listener(5, [], rules)).rules, [])

    def test_numbered_as_they_are_found(self):
        rules = [(0, "enter", None, None, None, 3), (0, "leave", None, None, None, 1), (3, "end", None, None, None, 2)]
        found = merged(Listener(4, [1, 2], rules + [(2, "drop", None, None, None, 3)]))
        self.assertEqual((found.states, found.on), (4, [2, 3]))
        self.assertEqual([rule[0] for rule in found.rules], sorted(rule[0] for rule in found.rules))
        self.assertEqual({(rule[0], rule[1], rule[5]) for rule in found.rules},
                         {(0, "enter", 1), (0, "leave", 2), (1, "end", 3), (3, "drop", 1)})

    def test_signals_that_cannot_be_heard_count(self):
        rules = [(None, "end", "zone", True, "inside", 1)]
        self.assertEqual(merged(Listener(2, [1], rules)).rules, [(0, "end", "zone", True, "inside", 1)])

    def test_by_a_second_reckoning(self):
        random = Random(17)
        sizes = set()
        for _ in range(80):
            listener = random_listener(random, random.randrange(1, 13), random.randrange(20))
            found = merged(listener)
            same_fields(self, found, reckoned_merged(listener))
            sizes.add((listener.states, found.states))
        self.assertTrue(any(few < many for many, few in sizes))
        for name in SAMPLES:
            same_fields(self, merged(sample(name)), reckoned_merged(sample(name)))

    def test_on_alike_behind_all_signals(self):
        random = Random(18)
        for _ in range(20):
            listener = random_listener(random, 12, 30)
            found = merged(listener)
            self.assertLessEqual(found.states, 12)
            state = state_found = 0
            for _ in range(100):
                self.assertEqual(state in listener.on, state_found in found.on)
                signal = random.choice(SIGNALS)
                state, state_found = next_state(listener, state, signal), next_state(found, state_found, signal)

    def test_merging_again_changes_nothing(self):
        random = Random(19)
        for _ in range(20):
            found = merged(random_listener(random, 8, 15))
            same_fields(self, merged(found), found)

    def test_twelve_and_thirteen_states(self):
        rules = [(at, "over", None, None, None, (at + 1) % 12) for at in range(12)]
        found = merged(Listener(12, [7], rules))
        self.assertEqual((found.states, len(found.rules), found.on), (12, 12 * 18, [7]))
        every = [(None, *signal, at % 12) for at, signal in enumerate(SIGNALS)]
        self.assertEqual(len(merged(Listener(12, [3], every + rules)).rules),
                         len(reckoned_merged(Listener(12, [3], every + rules)).rules))
        for listener in (Listener(13, [], []), Listener(13, [12], rules), Listener(60, [0], []), Listener(60, [], rules)):
            self.assertEqual(refusal(merged, listener), "too many states")

    def test_arguments_stay(self):
        listener = sample("counting")
        merged(listener).rules.clear()
        same_fields(self, listener, sample("counting"))
        self.assertEqual(len(merged(listener).rules), len(reckoned_merged(listener).rules))


if __name__ == "__main__":
    unittest.main()
