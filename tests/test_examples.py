"""The examples of point 23."""

import unittest

from dragtold.listeners import first_wrong, is_right_paper, is_wrong, right_paper
from dragtold.scenarios import enact, is_scenario
from dragtold.setups import Setup, sample
from dragtold.stage import play

ROOT = Setup("root", ["enter", "leave", "drop", "end"], [])
ZONE = Setup("zone", ["enter", "leave", "drop"], [])


class ExamplesTest(unittest.TestCase):
    def test_simple_at_the_root(self):
        scenario = [(0, 0, 0, 2, 0)]
        self.assertEqual(first_wrong(ROOT, sample("simple"), []), scenario)
        self.assertEqual(enact(ROOT, scenario), [("add", 0), ("point", 2, 0)])
        self.assertEqual(play(ROOT, sample("simple"), enact(ROOT, scenario)),
                         [([("enter", "outside", False, "none")], 1, True, False)])

    def test_simple_at_the_zone(self):
        scenario = [(0, 0, 0, 3, 0), (2, 4, 0, 3, 0)]
        self.assertEqual(first_wrong(ZONE, sample("simple"), []), scenario)
        enter, leave = ("enter", "inside", False, "none"), ("leave", "inside", False, "none")
        self.assertEqual(play(ZONE, sample("simple"), enact(ZONE, scenario)),
                         [([enter], 1, True, True), ([enter, leave], 0, False, True)])

    def test_simple_at_the_zone_with_nothing_inside(self):
        history = [("add", 0), ("point", 2, 0), ("point", 1, 0), ("point", 1, 0), ("point", 2, 0), ("point", 1, 0),
                   ("drop", True, 0), ("point", 1, 0), ("cancel", True, 0)]
        told = play(ZONE, sample("simple"), history)
        self.assertEqual([on for _, _, on, _ in told], [hovered for _, _, _, hovered in told])
        self.assertEqual([hovered for _, _, _, hovered in told], [False, True, True, False, True, False, True, False])

    def test_counting_at_the_zone(self):
        self.assertIsNone(first_wrong(ZONE, sample("counting"), []))
        paper = right_paper(ZONE, sample("counting"), [])
        self.assertTrue(is_right_paper(ZONE, sample("counting"), [], paper))
        self.assertIsNone(right_paper(ZONE, sample("simple"), []))
        scenario = [(0, 0, 0, 3, 0), (2, 4, 0, 3, 0)]
        self.assertEqual([told[1:] for told in play(ZONE, sample("counting"), enact(ZONE, scenario))],
                         [(1, True, True), (1, True, True)])

    def test_counting_at_the_zone_with_removals(self):
        scenario = [(0, 0, 0, 3, 0), (0, 0, 0, 2, 0)]
        self.assertIsNone(right_paper(ZONE, sample("counting"), ["removals"]))
        self.assertTrue(is_wrong(ZONE, sample("counting"), scenario, ["removals"]))
        self.assertEqual(first_wrong(ZONE, sample("counting"), ["removals"]), scenario)
        self.assertFalse(is_scenario(ZONE, scenario, []))
        self.assertTrue(is_scenario(ZONE, scenario, ["removals"]))
        self.assertEqual(enact(ZONE, scenario), [
            ("add", 1), ("point", 2, 0), ("remove", 2), ("add", 0), ("point", 3, 0)])
        self.assertEqual(play(ZONE, sample("counting"), enact(ZONE, scenario)), [
            ([("enter", "inside", False, "none")], 1, True, True), ([], 1, True, False)])


if __name__ == "__main__":
    unittest.main()
