import unittest

from dragtold.setups import Listener, Setup, sample
from dragtold.stage import Stage, play
from tests.helpers import deaf_listener, hears_all, refusal


def stage_with(steps, setup=None, listener=None):
    stage = Stage(setup or hears_all(), listener or deaf_listener())
    for step in steps:
        stage.act(step)
    return stage


def heard(steps, setup=None):
    """The signals of the last of the steps."""
    return play(setup or hears_all(), deaf_listener(), steps)[-1][0]


def kinds_and_sides(steps, setup=None):
    return [signal[:2] for signal in heard(steps, setup)]


# A page with an element outside, 2, one inside, 3, and one in that, 4.
PAGE = [("add", 0), ("add", 1), ("add", 3)]


class PageTest(unittest.TestCase):
    def sides(self, stage, many):
        return [stage.side(element) for element in range(many)]

    def test_the_first_page(self):
        stage = stage_with([])
        self.assertEqual(self.sides(stage, 4), ["outside", "zone", "gone", "gone"])
        self.assertEqual((stage.side(-1), stage.side(10 ** 20)), ("gone", "gone"))
        self.assertIs(stage.is_hovered(), False)

    def test_add(self):
        stage = stage_with([])
        for step in PAGE:
            self.assertIsNone(stage.act(step))
        self.assertEqual(self.sides(stage, 6), ["outside", "zone", "outside", "inside", "inside", "gone"])

    def test_numbers_count_those_that_are_gone(self):
        stage = stage_with([("add", 0), ("remove", 2), ("add", 1)])
        self.assertEqual(self.sides(stage, 5), ["outside", "zone", "gone", "inside", "gone"])

    def test_removed_with_all_within(self):
        stage = stage_with(PAGE + [("add", 4)])
        self.assertIsNone(stage.act(("remove", 3)))
        self.assertEqual(self.sides(stage, 6), ["outside", "zone", "outside", "gone", "gone", "gone"])

    def test_placed_with_all_within(self):
        stage = stage_with(PAGE)
        self.assertIsNone(stage.act(("place", 3, 2)))
        self.assertEqual(self.sides(stage, 5), ["outside", "zone", "outside", "outside", "outside"])
        stage.act(("place", 2, 1))
        self.assertEqual(self.sides(stage, 5), ["outside", "zone", "inside", "inside", "inside"])
        stage.act(("place", 4, 0))
        stage.act(("remove", 2))
        self.assertEqual(self.sides(stage, 5), ["outside", "zone", "gone", "gone", "outside"])

    def test_placed_where_it_was(self):
        stage = stage_with(PAGE + [("place", 4, 3), ("place", 2, 0)])
        self.assertEqual(self.sides(stage, 5), ["outside", "zone", "outside", "inside", "inside"])

    def test_what_was_in_a_placed_element_is_not_where_it_was(self):
        stage = stage_with(PAGE + [("place", 4, 2), ("remove", 3)])
        self.assertEqual(stage.side(4), "outside")

    def test_changes_that_are_not_possible(self):
        gone = PAGE + [("add", 4), ("remove", 4)]
        wrong = [("add", 4), ("add", 5), ("add", 6), ("add", -1), ("remove", 0), ("remove", 1), ("remove", 4),
                 ("remove", 5), ("remove", 6), ("place", 0, 1), ("place", 1, 0), ("place", 1, 2), ("place", 4, 0),
                 ("place", 2, 4), ("place", 2, 5), ("place", 2, 6), ("place", 6, 0), ("place", 2, 2)]
        for step in wrong:
            self.assertEqual(refusal(stage_with(gone).act, step), "not possible", step)
        for step in (("place", 3, 3), ("place", 3, 4)):
            self.assertEqual(refusal(stage_with(PAGE).act, step), "not possible", step)

    def test_no_steps(self):
        wrong = [(), ("add",), ("add", 0, 0), ("add", True), ("add", None), ("add", "0"), ("remove", 2, 0),
                 ("place", 2), ("place", 2, True), ("place", True, 0), ("Add", 0), ("move", 2, 0), (0, 0), (None,),
                 ("point", 0), ("point", 0, 0, 0), ("point", True, 0), ("point", 0, 8), ("point", 0, -1),
                 ("point", 0, True), ("point", 0, None), ("slip", 0), ("out",), ("out", 8), ("out", False),
                 ("out", 0, 0), ("drop", 0), ("drop", 0, 0), ("drop", 1, 0), ("drop", None, 0), ("drop", True, 8),
                 ("drop", True, False), ("cancel", True), ("cancel", 1, 0), ("cancel", False, -1), ["add", 0],
                 "add", None, 0, ([], 0), ({}, 0, 0), ("add", []), ("point", [0], 0), ("point", 0, [0])]
        for step in wrong:
            stage = stage_with(PAGE)
            self.assertEqual(refusal(stage.act, step), "not possible", step)
            self.assertEqual(stage.steps(), PAGE)


class TickTest(unittest.TestCase):
    def test_point_without_a_target(self):
        self.assertEqual(heard(PAGE + [("point", 2, 0)]),
                         [("enter", "outside", False, "none"), ("over", "outside", True, "none")])

    def test_point_at_the_current_target(self):
        self.assertEqual(heard(PAGE + [("point", 2, 0), ("point", 2, 0)]), [("over", "outside", True, "none")])

    def test_point_at_another_one(self):
        self.assertEqual(heard(PAGE + [("point", 2, 0), ("point", 4, 0)]), [
            ("enter", "inside", False, "outside"), ("leave", "outside", False, "inside"),
            ("over", "inside", True, "none")])

    def test_the_zone_itself(self):
        self.assertEqual(heard(PAGE + [("point", 1, 0), ("point", 4, 0)]), [
            ("enter", "inside", False, "inside"), ("leave", "zone", False, "inside"),
            ("over", "inside", True, "none")])
        self.assertEqual(heard([("point", 0, 0), ("point", 1, 0)]), [
            ("enter", "zone", False, "outside"), ("leave", "outside", False, "inside"),
            ("over", "zone", True, "none")])

    def test_a_target_that_is_gone_is_not_left(self):
        for gone in (("remove", 4), ("remove", 3)):
            self.assertEqual(heard(PAGE + [("point", 4, 0), gone, ("point", 1, 0)]),
                             [("enter", "zone", False, "none"), ("over", "zone", True, "none")])

    def test_a_target_in_one_that_is_removed_is_gone(self):
        stage = stage_with(PAGE + [("point", 4, 0)])
        self.assertTrue(stage.is_hovered())
        stage.act(("remove", 3))
        self.assertIs(stage.is_hovered(), False)

    def test_a_target_that_is_placed(self):
        stage = stage_with(PAGE + [("point", 4, 0)])
        stage.act(("place", 3, 0))
        self.assertIs(stage.is_hovered(), False)
        stage.act(("place", 3, 1))
        self.assertIs(stage.is_hovered(), True)
        self.assertEqual(heard(PAGE + [("point", 4, 0), ("place", 3, 0), ("point", 4, 0)]),
                         [("over", "outside", True, "none")])

    def test_slip(self):
        steps = PAGE + [("point", 4, 0), ("slip", 2, 0)]
        self.assertEqual(heard(steps), [("enter", "outside", False, "inside"), ("over", "outside", True, "none")])
        stage = stage_with(steps)
        self.assertEqual((stage.side(4), stage.side(2), stage.is_hovered()), ("gone", "outside", False))
        self.assertEqual(stage.act(("point", 3, 0))[0][1], ("leave", "outside", False, "inside"))

    def test_slip_to_the_one_around(self):
        stage = stage_with(PAGE + [("point", 4, 0)])
        signals = stage.act(("slip", 3, 0))[0]
        self.assertEqual(signals, [("enter", "inside", False, "inside"), ("over", "inside", True, "none")])
        self.assertEqual((stage.side(4), stage.is_hovered()), ("gone", True))

    def test_slips_that_are_not_possible(self):
        wrong = [
            ([], ("slip", 2, 0)),
            ([("point", 0, 0)], ("slip", 2, 0)),
            ([("point", 1, 0)], ("slip", 2, 0)),
            ([("point", 3, 0)], ("slip", 2, 0)),
            ([("point", 3, 0)], ("slip", 4, 0)),
            ([("point", 2, 0)], ("slip", 2, 0)),
            ([("point", 2, 0)], ("slip", 5, 0)),
            ([("point", 2, 0), ("remove", 4)], ("slip", 4, 0)),
            ([("point", 4, 0), ("remove", 3)], ("slip", 2, 0)),
            ([("point", 4, 0), ("out", 0)], ("slip", 2, 0)),
        ]
        for steps, slip in wrong:
            self.assertEqual(refusal(stage_with(PAGE + steps).act, slip), "not possible", (steps, slip))

    def test_a_slip_is_possible_when_all_in_the_target_is_gone(self):
        for away in (("remove", 4), ("place", 4, 2)):
            stage = stage_with(PAGE + [("point", 3, 0), away])
            self.assertEqual(stage.act(("slip", 1, 0))[3], True)
            self.assertEqual(stage.side(3), "gone")

    def test_points_that_are_not_possible(self):
        for element in (5, -1, 99):
            self.assertEqual(refusal(stage_with(PAGE).act, ("point", element, 0)), "not possible")
        self.assertEqual(refusal(stage_with(PAGE + [("remove", 3)]).act, ("point", 4, 0)), "not possible")

    def test_out_drop_and_cancel(self):
        end = ("end", "outside", False, "none")
        for tick, expected in [
            (("out", 0), [("leave", "inside", True, "none")]),
            (("drop", True, 0), [("drop", "inside", True, "none"), end]),
            (("drop", False, 0), [("drop", "inside", True, "none")]),
            (("cancel", True, 0), [("leave", "inside", True, "none"), end]),
            (("cancel", False, 0), [("leave", "inside", True, "none")]),
        ]:
            stage = stage_with(PAGE + [("point", 4, 0)])
            self.assertEqual(stage.act(tick), (expected, 0, False, False))
            self.assertIs(stage.is_hovered(), False)
            self.assertEqual(stage.act(("point", 2, 0))[0][0], ("enter", "outside", False, "none"))

    def test_out_drop_and_cancel_without_a_target(self):
        end = [("end", "outside", False, "none")]
        for ahead in ([], [("point", 4, 0), ("remove", 3)], [("point", 4, 0), ("out", 0)]):
            for tick, expected in [(("out", 0), []), (("drop", True, 0), end), (("drop", False, 0), []),
                                   (("cancel", True, 0), end), (("cancel", False, 0), [])]:
                self.assertEqual(heard(PAGE + ahead + [tick]), expected)


class StopsTest(unittest.TestCase):
    def left(self, ahead, tick, place):
        """For each sum of stops the numbers of the events that are heard."""
        setup = Setup(place, ["enter", "leave", "over", "drop", "end"], [])
        order = kinds_and_sides(PAGE + ahead + [tick + (0,)])
        found = []
        for stops in range(8):
            signals = kinds_and_sides(PAGE + ahead + [tick + (stops,)], setup)
            found.append([order.index(signal) for signal in signals])
        return found

    def test_capture_hears_what_is_stopped(self):
        self.assertEqual(self.left([("point", 2, 0)], ("point", 4), "capture"), [[0, 1, 2]] * 8)

    def test_the_root(self):
        self.assertEqual(self.left([("point", 2, 0)], ("point", 4), "root"),
                         [[0, 1, 2], [1, 2], [0, 2], [2], [0, 1], [1], [0], []])

    def test_the_root_hears_its_own_events(self):
        self.assertEqual(self.left([("point", 0, 0)], ("point", 4), "root"),
                         [[0, 1, 2], [1, 2], [0, 1, 2], [1, 2], [0, 1], [1], [0, 1], [1]])

    def test_the_zone(self):
        self.assertEqual(self.left([("point", 3, 0)], ("point", 2), "zone"),
                         [[1], [1], [], [], [1], [1], [], []])
        self.assertEqual(self.left([("point", 2, 0)], ("point", 3), "zone"),
                         [[0, 2], [2], [0, 2], [2], [0], [], [0], []])

    def test_the_zone_hears_its_own_events(self):
        setup = Setup("zone", ["enter", "leave", "over"], ["own"])
        for stops in range(8):
            self.assertEqual(kinds_and_sides([("point", 1, stops)], setup), [("enter", "zone"), ("over", "zone")])
        self.assertEqual(kinds_and_sides(PAGE + [("point", 1, 0), ("point", 4, 7)], setup), [("leave", "zone")])

    def test_the_events_of_a_slip_are_the_first_and_the_second(self):
        self.assertEqual(self.left([("point", 2, 0)], ("slip", 4), "root"),
                         [[0, 1], [1], [0], [], [0, 1], [1], [0], []])

    def test_a_point_at_the_current_target_has_one_event(self):
        self.assertEqual(self.left([("point", 2, 0)], ("point", 2), "root"), [[0], []] * 4)

    def test_end_events_are_not_stopped(self):
        self.assertEqual(self.left([("point", 2, 0)], ("drop", True), "root"), [[0, 1], [1]] * 4)
        self.assertEqual(self.left([("point", 2, 0)], ("cancel", True), "root"), [[0, 1], [1]] * 4)
        self.assertEqual(self.left([], ("drop", True), "root"), [[0]] * 8)
        self.assertEqual(self.left([], ("cancel", True), "capture"), [[0]] * 8)

    def test_the_zone_hears_no_end_events(self):
        self.assertEqual(self.left([("point", 4, 0)], ("drop", True), "zone"), [[0], []] * 4)
        self.assertEqual(self.left([], ("drop", True), "zone"), [[]] * 8)


class SetupOnStageTest(unittest.TestCase):
    STEPS = PAGE + [("point", 2, 0), ("point", 4, 0)]

    def test_only_the_kinds_of_the_setup(self):
        for kind, at in [("enter", 0), ("leave", 1), ("over", 2)]:
            expected = [kinds_and_sides(self.STEPS)[at]]
            self.assertEqual(kinds_and_sides(self.STEPS, Setup("capture", [kind], [])), expected)
        self.assertEqual(heard(self.STEPS, Setup("capture", ["drop", "end"], [])), [])
        self.assertEqual(heard(self.STEPS, Setup("capture", [], ["own", "same"])), [])

    def test_the_zone_hears_only_what_is_within(self):
        setup = Setup("zone", ["enter", "leave", "over", "drop"], [])
        self.assertEqual(kinds_and_sides(self.STEPS, setup), [("enter", "inside"), ("over", "inside")])
        self.assertEqual(kinds_and_sides(self.STEPS[:-1], setup), [])

    def test_without_sights(self):
        setup = Setup("root", ["enter", "leave", "over"], [])
        self.assertEqual(heard(PAGE + [("point", 1, 0), ("point", 2, 0)], setup), [
            ("enter", "outside", False, "none"), ("leave", "inside", False, "none"),
            ("over", "outside", False, "none")])

    def test_related_alone(self):
        setup = Setup("root", ["enter", "leave", "over"], ["related"])
        self.assertEqual(heard([("add", 1), ("point", 1, 0), ("point", 2, 0)], setup), [
            ("enter", "inside", False, "inside"), ("leave", "inside", False, "inside"),
            ("over", "inside", False, "none")])

    def test_own_alone(self):
        setup = Setup("root", ["enter", "leave", "over"], ["own"])
        self.assertEqual(heard([("point", 0, 0), ("point", 1, 0)], setup), [
            ("enter", "zone", False, "none"), ("leave", "outside", False, "none"),
            ("over", "zone", False, "none")])


class SameTest(unittest.TestCase):
    def same(self, steps, setup):
        return [signal[2] for signal in heard(PAGE + steps, setup)]

    def test_the_last_one_entered_is_entered_again(self):
        setup = hears_all()
        self.assertEqual(self.same([("point", 2, 0), ("out", 0), ("point", 2, 0)], setup), [True, True])
        self.assertEqual(self.same([("point", 2, 0), ("remove", 2), ("add", 0), ("point", 5, 0)], setup), [False, True])

    def test_an_enter_event_that_is_not_heard_does_not_count(self):
        setup = Setup("root", ["enter", "leave", "over"], ["same"])
        self.assertEqual(self.same([("point", 2, 0), ("point", 4, 1)], setup), [True, False])
        self.assertEqual(self.same([("point", 2, 0), ("point", 4, 1), ("point", 2, 0)], setup), [True, False, True])
        zone = Setup("zone", ["enter", "leave"], ["same"])
        self.assertEqual(self.same([("point", 4, 0), ("point", 2, 0)], zone), [True])
        self.assertEqual(self.same([("point", 4, 0), ("point", 3, 0), ("point", 2, 0)], zone), [True])

    def test_a_stopped_enter_event_counts_where_it_is_heard(self):
        self.assertEqual(self.same([("point", 2, 0), ("point", 4, 1), ("point", 4, 0)], hears_all()), [True])
        setup = Setup("root", ["enter", "leave", "over"], ["same"])
        self.assertEqual(self.same([("point", 2, 0), ("point", 0, 1), ("point", 0, 0)], setup), [True])

    def test_without_enter_none_is_the_same(self):
        setup = Setup("root", ["leave", "over", "drop"], ["same"])
        self.assertEqual(self.same([("point", 2, 0), ("point", 4, 0)], setup), [False, False])

    def test_drops_and_outs_keep_the_last_one_entered(self):
        for tick in (("out", 0), ("drop", True, 0), ("drop", False, 0), ("cancel", True, 0), ("cancel", False, 0)):
            self.assertEqual(self.same([("point", 2, 0), tick, ("point", 2, 0)], hears_all()), [True, True])


class ActTest(unittest.TestCase):
    SETUP = Setup("zone", ["enter", "leave", "drop"], [])

    def test_what_a_tick_tells(self):
        stage = Stage(self.SETUP, sample("counting"))
        self.assertIsNone(stage.act(("add", 1)))
        entered = [("enter", "inside", False, "none")]
        left = [("leave", "inside", False, "none")]
        self.assertEqual(stage.act(("point", 1, 0)), (entered, 1, True, True))
        self.assertEqual(stage.act(("point", 2, 0)), (entered + left, 1, True, True))
        self.assertEqual(stage.act(("point", 0, 0)), (left, 0, False, False))
        self.assertEqual(stage.act(("out", 0)), ([], 0, False, False))

    def test_a_listener_may_be_on_at_first(self):
        stage = Stage(self.SETUP, Listener(2, [0], [(0, "enter", None, None, None, 1)]))
        self.assertEqual(stage.act(("out", 0)), ([], 0, True, False))
        self.assertEqual(stage.act(("point", 1, 0))[1:], (1, False, True))

    def test_one_state_and_no_rules(self):
        stage = Stage(self.SETUP, Listener(1, [0], []))
        self.assertEqual(stage.act(("point", 1, 0)), ([("enter", "inside", False, "none")], 0, True, True))

    def test_sixty_states_and_1200_rules(self):
        rules = [(None, "drop", None, None, None, 0)] * 1140
        rules += [(at, "over", None, None, None, (at + 1) % 60) for at in range(60)]
        stage = Stage(Setup("root", ["over"], []), Listener(60, [59], rules))
        told = [stage.act(("point", 1, 0)) for _ in range(60)]
        self.assertEqual([(state, on) for _, state, on, _ in told[-3:]], [(58, False), (59, True), (0, False)])

    def test_answers_belong_to_the_caller(self):
        stage = Stage(self.SETUP, sample("simple"))
        first = stage.act(("point", 1, 0))
        first[0].clear()
        stage.steps().clear()
        self.assertEqual(stage.steps(), [("point", 1, 0)])
        stage.undo()
        self.assertEqual(stage.act(("point", 1, 0)), ([("enter", "inside", False, "none")], 1, True, True))

    def test_arguments_belong_to_the_caller(self):
        setup, listener = Setup("zone", ["enter"], []), sample("simple")
        stage = Stage(setup, listener)
        setup.place, setup.kinds = "root", ()
        listener.rules.clear()
        listener.on.clear()
        self.assertEqual(stage.act(("point", 1, 0)), ([("enter", "inside", False, "none")], 1, True, True))

    def test_a_refused_step_changes_nothing(self):
        stage = stage_with(PAGE + [("point", 4, 0)])
        for step in (("add", 9), ("point", 9, 0), ("slip", 4, 0), ("drop", 2, 0)):
            self.assertEqual(refusal(stage.act, step), "not possible")
        self.assertEqual(stage.steps(), PAGE + [("point", 4, 0)])
        self.assertTrue(stage.is_hovered())
        self.assertEqual(stage.act(("point", 4, 0))[0], [("over", "inside", True, "none")])


class UndoTest(unittest.TestCase):
    def test_nothing_to_undo(self):
        stage = stage_with([])
        self.assertIs(stage.undo(), False)
        self.assertEqual(stage.steps(), [])
        stage.act(("out", 0))
        self.assertIs(stage.undo(), True)
        self.assertIs(stage.undo(), False)

    def test_numbers_come_again(self):
        stage = stage_with([("add", 0)])
        stage.undo()
        self.assertEqual(stage.side(2), "gone")
        stage.act(("add", 1))
        self.assertEqual((stage.side(2), stage.side(3)), ("inside", "gone"))

    def test_all_is_as_it_was(self):
        steps = PAGE + [
            ("point", 4, 0), ("point", 2, 0), ("place", 4, 2), ("point", 4, 0), ("slip", 2, 0), ("remove", 3),
            ("add", 1), ("point", 5, 0), ("out", 0), ("point", 5, 0), ("drop", True, 0), ("point", 1, 0),
            ("cancel", False, 0)]
        setup = hears_all()
        listener = Listener(7, [1, 4], [(at, None, None, None, None, (at * 3 + 1) % 7) for at in range(7)])
        stage = Stage(setup, listener)
        seen = []
        for step in steps:
            before = ([stage.side(at) for at in range(8)], stage.is_hovered(), stage.steps())
            seen.append((before, stage.act(step)))
        for step, (before, told) in reversed(list(zip(steps, seen))):
            for _ in range(2):
                self.assertIs(stage.undo(), True)
                self.assertEqual(([stage.side(at) for at in range(8)], stage.is_hovered(), stage.steps()), before)
                self.assertEqual(stage.act(step), told)
            stage.undo()
        self.assertIs(stage.undo(), False)


class ManyStepsTest(unittest.TestCase):
    def test_200_steps(self):
        stage = stage_with([("add", 0)] * 199)
        self.assertEqual(stage.act(("point", 1, 0))[3], True)
        self.assertEqual(len(stage.steps()), 200)
        self.assertEqual(refusal(stage.act, ("point", 0, 0)), "too many steps")
        self.assertEqual(refusal(stage.act, ("add", 0)), "too many steps")
        self.assertEqual((len(stage.steps()), stage.is_hovered(), stage.side(201)), (200, True, "gone"))

    def test_not_possible_comes_first(self):
        stage = stage_with([("out", 0)] * 200)
        self.assertEqual(refusal(stage.act, ("point", 2, 0)), "not possible")
        self.assertEqual(refusal(stage.act, ("point", 1, 8)), "not possible")

    def test_steps_that_are_undone_do_not_count(self):
        stage = stage_with([("out", 0)] * 200)
        stage.undo()
        self.assertIsNone(stage.act(("add", 1)))
        self.assertEqual(refusal(stage.act, ("out", 0)), "too many steps")

    def test_a_deep_page(self):
        stage = stage_with([("add", at) for at in range(1, 199)] + [("point", 199, 0)])
        self.assertEqual((stage.side(199), stage.is_hovered()), ("inside", True))
        self.assertIsNone(stage.act(("remove", 2)))
        self.assertEqual((stage.side(199), stage.side(2), stage.is_hovered()), ("gone", "gone", False))


class PlayTest(unittest.TestCase):
    SETUP = Setup("zone", ["enter", "leave", "drop"], [])

    def test_nothing(self):
        self.assertEqual(play(self.SETUP, sample("simple"), []), [])
        self.assertEqual(play(self.SETUP, sample("simple"), [("add", 0), ("remove", 2)]), [])

    def test_like_a_stage(self):
        history = PAGE + [("point", 4, 0), ("point", 3, 0), ("remove", 3), ("point", 2, 5), ("drop", False, 0)]
        stage = Stage(self.SETUP, sample("counting"))
        told = [stage.act(step) for step in history]
        copy = list(history)
        self.assertEqual(play(self.SETUP, sample("counting"), history), [each for each in told if each is not None])
        self.assertEqual(history, copy)

    def test_not_possible(self):
        for history in ([("point", 2, 0)], [("add", 0), ("remove", 2), ("point", 2, 0)], [("out", 0), ("out", 8)],
                        [("point", 1, 0), ("jump", 1)], [("add", 0), ("point", 2, 0), ("slip", 2, 0)]):
            self.assertEqual(refusal(play, self.SETUP, sample("simple"), history), "not possible", history)

    def test_long_histories(self):
        told = play(self.SETUP, sample("simple"), [("point", 1, 0)] * 250)
        self.assertEqual(told[1:], [([], 1, True, True)] * 249)


if __name__ == "__main__":
    unittest.main()
