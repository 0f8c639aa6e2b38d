import unittest
from itertools import permutations, product

from dragtold.setups import Listener, Setup, next_state, sample
from tests.helpers import KINDS, PLACES, SIGHTS, fields, refusal, subsets

RULE = (None, None, None, None, None, 0)


def rule_with(at, part):
    return RULE[:at] + (part,) + RULE[at + 1:]


class SetupTest(unittest.TestCase):
    def test_fields(self):
        setup = Setup("zone", ("enter", "leave"), ("same",))
        self.assertEqual(fields(setup), {"place": "zone", "kinds": ("enter", "leave"), "sights": ("same",)})

    def test_every_choice_in_every_order_of_lists_and_tuples(self):
        for place, kinds in product(PLACES, subsets(KINDS)):
            for order in permutations(kinds):
                for handed in (list(order), tuple(order)):
                    setup = Setup(place, handed, [])
                    self.assertEqual((setup.place, setup.kinds, setup.sights), (place, tuple(kinds), ()))
        for sights in subsets(SIGHTS):
            for order in permutations(sights):
                for handed in (list(order), tuple(order)):
                    self.assertEqual(Setup("root", (), handed).sights, tuple(sights))

    def test_fields_are_copies_and_arguments_stay(self):
        kinds, sights = ["end", "enter"], ["related", "own"]
        setup = Setup("capture", kinds, sights)
        self.assertEqual((kinds, sights), (["end", "enter"], ["related", "own"]))
        kinds.append("over")
        sights.clear()
        self.assertEqual((setup.kinds, setup.sights), (("enter", "end"), ("own", "related")))

    def test_places_that_are_none(self):
        for place in ("", "Zone", "window", "zone ", None, 0, True, ("zone",), ["zone"]):
            self.assertEqual(refusal(Setup, place, ["enter"], []), "no setup", place)

    def test_kinds_that_are_none(self):
        wrong = [["enter", "enter"], ("end", "over", "end"), ["Enter"], ["own"], [""], [None], [0], [True],
                 [["enter"]], "enter", "", None, 0, {"enter": 1}, {"enter"}]
        for kinds in wrong:
            self.assertEqual(refusal(Setup, "zone", kinds, []), "no setup", kinds)

    def test_sights_that_are_none(self):
        wrong = [["own", "own"], ("same", "related", "same"), ["enter"], ["Same"], [None], [1], [False],
                 [("own",)], "own", "", None, 3, {"same": 1}, {"same"}]
        for sights in wrong:
            self.assertEqual(refusal(Setup, "zone", [], sights), "no setup", sights)


class ListenerTest(unittest.TestCase):
    def test_fields(self):
        rules = [(1, "enter", "inside", True, "none", 2), RULE]
        listener = Listener(3, [2, 0], rules)
        self.assertEqual(fields(listener), {"states": 3, "on": [0, 2], "rules": rules})
        self.assertIs(type(listener.on), list)
        self.assertIs(type(listener.rules), list)

    def test_fields_are_copies_and_arguments_stay(self):
        on, rules = [1, 0], [rule_with(5, 1), RULE]
        listener = Listener(2, on, rules)
        self.assertEqual((on, rules), ([1, 0], [rule_with(5, 1), RULE]))
        on.pop()
        rules.reverse()
        self.assertEqual((listener.on, listener.rules), ([0, 1], [rule_with(5, 1), RULE]))

    def test_the_least_one(self):
        self.assertEqual(fields(Listener(1, [], [])), {"states": 1, "on": [], "rules": []})

    def test_sixty_states_and_1200_rules(self):
        rules = [(at // 20, None, None, None, None, 59) for at in range(1200)]
        listener = Listener(60, list(range(59, -1, -1)), rules)
        self.assertEqual((listener.states, listener.on, listener.rules), (60, list(range(60)), rules))
        self.assertEqual(refusal(Listener, 60, [], rules + [RULE]), "no listener")
        self.assertEqual(refusal(Listener, 61, [], []), "no listener")

    def test_states_out_of_range(self):
        for states in (0, -1, 61, 10 ** 30, True, False, None, "2", [2], 2.0):
            self.assertEqual(refusal(Listener, states, [], []), "no listener", states)

    def test_on_that_is_none(self):
        for on in ([3], [-1], [0, 0], [1, 2, 1], [True], [False], [None], ["1"], [[0]], [1.0], None, 0, "", {0}, {0: 1}):
            self.assertEqual(refusal(Listener, 3, on, []), "no listener", on)

    def test_rules_of_another_shape(self):
        for rules in ([()], [RULE[:5]], [RULE + (0,)], [list(RULE)], [None], [0], ["rule"], None, 0, "", {RULE: 1}):
            self.assertEqual(refusal(Listener, 2, [], rules), "no listener", rules)

    def test_parts_that_may_stand(self):
        parts = [(None, 0, 1), (None,) + KINDS, (None, "outside", "inside", "zone"), (None, True, False),
                 (None, "none", "outside", "inside"), (0, 1)]
        for at, some in enumerate(parts):
            for part in some:
                self.assertEqual(Listener(2, [], [rule_with(at, part)]).rules, [rule_with(at, part)])

    def test_parts_that_are_none(self):
        wrong = [
            (2, -1, True, False, "0", (0,), 0.0),
            ("", "Enter", "none", 0, True, ("enter",), ["enter"]),
            ("none", "gone", "root", "", 1, False, ("zone",)),
            (0, 1, "True", "yes", (), []),
            ("zone", "gone", "", 0, False, ("none",)),
            (None, 2, -1, True, False, "0", 1.0, []),
        ]
        for at, some in enumerate(wrong):
            for part in some:
                rules = [RULE, rule_with(at, part)]
                self.assertEqual(refusal(Listener, 2, [], rules), "no listener", (at, part))


class SampleTest(unittest.TestCase):
    def test_samples(self):
        ahead = {
            "simple": [(None, "enter", None, None, None, 1), (None, "leave", None, None, None, 0)],
            "counting": [(0, "enter", None, None, None, 1), (1, "enter", None, None, None, 2),
                         (2, "leave", None, None, None, 1), (1, "leave", None, None, None, 0)],
            "latest": [(None, "enter", "outside", None, None, 0), (None, "enter", None, None, None, 1),
                       (None, "leave", None, True, None, 0)],
            "over": [(None, "over", "outside", None, None, 0), (None, "over", None, None, None, 1),
                     (None, "leave", None, None, None, 0)],
            "related": [(None, "enter", None, None, None, 1), (1, "leave", None, None, "inside", 1),
                        (None, "leave", None, None, None, 0)],
        }
        common = [(None, "drop", None, None, None, 0), (None, "end", None, None, None, 0)]
        for name, rules in ahead.items():
            states = 3 if name == "counting" else 2
            on = [1, 2] if name == "counting" else [1]
            listener = sample(name)
            self.assertIsInstance(listener, Listener)
            self.assertEqual(fields(listener), {"states": states, "on": on, "rules": rules + common})

    def test_samples_belong_to_the_caller(self):
        taken = sample("simple")
        taken.rules.clear()
        taken.on.append(0)
        self.assertEqual(len(sample("simple").rules), 4)
        self.assertEqual(sample("simple").on, [1])


class NextStateTest(unittest.TestCase):
    SIGNAL = ("enter", "inside", False, "none")

    def behind(self, rules, state=1, signal=SIGNAL):
        return next_state(Listener(3, [], rules), state, signal)

    def test_no_rule_the_state_stays(self):
        self.assertEqual(self.behind([]), 1)
        self.assertEqual(self.behind([(0, None, None, None, None, 2)]), 1)

    def test_the_first_rule_that_applies(self):
        rules = [(0, None, None, None, None, 0), (1, None, None, None, None, 2), (1, None, None, None, None, 0)]
        self.assertEqual(self.behind(rules), 2)
        self.assertEqual(self.behind(rules[1:] + rules[:1]), 2)
        self.assertEqual(self.behind(rules[::-1]), 0)

    def test_a_rule_may_keep_the_state(self):
        self.assertEqual(self.behind([(1, None, None, None, None, 1), (None, None, None, None, None, 2)]), 1)

    def test_each_part(self):
        equal = (1,) + self.SIGNAL
        other = (2, "leave", "zone", True, "outside")
        self.assertEqual(self.behind([equal + (2,)]), 2)
        for at in range(5):
            alone = (None,) * at + equal[at:at + 1] + (None,) * (4 - at)
            self.assertEqual(self.behind([alone + (2,)]), 2)
            wrong = equal[:at] + other[at:at + 1] + equal[at + 1:]
            self.assertEqual(self.behind([wrong + (2,)]), 1)
            free = equal[:at] + (None,) + equal[at + 1:]
            self.assertEqual(self.behind([free + (2,)]), 2)

    def test_false_is_a_part_of_its_own(self):
        heard_same = ("leave", "inside", True, "none")
        rules = [(None, None, None, False, None, 0), (None, None, None, True, None, 2)]
        self.assertEqual(self.behind(rules), 0)
        self.assertEqual(self.behind(rules, 1, heard_same), 2)

    def test_the_last_of_1200_rules_in_the_last_of_60_states(self):
        rules = [(58, None, None, None, None, 1)] * 1199 + [(59, "end", "outside", False, "none", 7)]
        listener = Listener(60, [], rules)
        self.assertEqual(next_state(listener, 59, ("end", "outside", False, "none")), 7)
        self.assertEqual(next_state(listener, 59, ("drop", "outside", False, "none")), 59)

    def test_samples_hear(self):
        counting, latest, related = sample("counting"), sample("latest"), sample("related")
        self.assertEqual(next_state(counting, 2, ("enter", "inside", False, "none")), 2)
        self.assertEqual(next_state(counting, 2, ("leave", "inside", False, "none")), 1)
        self.assertEqual(next_state(counting, 0, ("leave", "inside", False, "none")), 0)
        self.assertEqual(next_state(counting, 2, ("end", "outside", False, "none")), 0)
        self.assertEqual(next_state(latest, 1, ("leave", "inside", False, "none")), 1)
        self.assertEqual(next_state(latest, 1, ("leave", "inside", True, "none")), 0)
        self.assertEqual(next_state(latest, 1, ("enter", "outside", False, "none")), 0)
        self.assertEqual(next_state(related, 1, ("leave", "inside", False, "inside")), 1)
        self.assertEqual(next_state(related, 1, ("leave", "inside", False, "outside")), 0)


if __name__ == "__main__":
    unittest.main()
