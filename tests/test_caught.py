"""[3], [8], [11] and [61]: where a client is caught."""

import random
import unittest

from openlanes.caught import caught
from openlanes.errors import NoKind, NoSeat, TooMany
from openlanes.layers import Layers
from openlanes.ways import bar, can_come, way
from tests.byhand import Model, is_over, some_lively_model, some_model
from tests.helpers import NEW, check_error, check_most, greatest
from tests.samples import ALONE, JOBS, PAIRS, WAITING, jobs

# Who has asked is answered, unless the server shuts the lane first; the place 3 has an else arm alone, 4 has no arms.
ASKING = Model(
    {"ask": 1, "say": 1},
    [("any", (("take", "ask", 1), ("close", "say", 2))), ("any", (("send", "say", 0),)), ("any", ())],
    {"k": [
        ("any", (("send", "ask", 1), ("else", 4))), ("any", (("take", "say", 2),)),
        ("first", (("else", 3),)), ("any", (("else", 4),)), ("any", ()),
    ]},
)


def alone(model, spot, seat):
    return (*spot, tuple(int(x == seat) for x in model.seats))


def all_spots(model):
    return [(place, content) for place in range(len(model.server)) for content in model.contents()]


def all_seats(models):
    return [(model, kind, place) for model in models for kind, place in model.seats]


def random_models(many):
    return [make(random.Random(seed)) for seed in range(many) for make in (some_model, some_lively_model)]


def stepping(model, kind, place):
    """The standings in which one client at the seat can make a step and nobody else is at a seat."""
    return [alone(model, spot, (kind, place)) for spot in all_spots(model)
            if model.moves(model.kinds[kind], place, spot[1])]


class AgainstRunsTest(unittest.TestCase):
    def compare(self, model, kind, place):
        """Checks each tuple that is told and each that is not; returns how many are told."""
        system = model.made()
        told = caught(system, kind, place)
        self.assertIs(told.__class__, list)
        self.assertEqual(told, sorted(set(told)))
        if not model.kinds[kind][place][1]:
            self.assertEqual(told, [])
            return 0
        wished = stepping(model, kind, place)
        layers = Layers(system, wished)
        lows = layers.layer(layers.last)
        if told:
            self.assertTrue(model.is_bar(wished, alone(model, told[0], (kind, place)), lows))
        for spot in all_spots(model):
            standing = alone(model, spot, (kind, place))
            if spot in told:
                self.assertTrue(is_over(system.run(system.first, way(system, [standing]))[-1], standing))
                self.assertFalse(any(is_over(standing, low) for low in lows))
                self.check_nobody_helps(model, standing, kind, place)
            elif can_come(system, [standing]):
                end = system.run(standing, layers.way(standing))[-1]
                self.assertTrue(any(step[:2] == (kind, place) for step, _ in model.steps(end)))
            else:
                self.assertTrue(model.is_bar([standing], system.first, bar(system, [standing])))
        return len(told)

    def check_nobody_helps(self, model, standing, kind, place):
        """Looks at all runs of the client, the server and one more client of each kind."""
        for state in model.fixed_states((1,) * len(model.kinds), standing):
            self.assertFalse([step for step, _ in model.fixed_steps(state) if step[:2] == (kind, place)])

    def test_systems_at_random(self):
        told = [self.compare(model, kind, place) for model, kind, place in all_seats(random_models(25))]
        self.assertGreater(len([many for many in told if many]), 5)
        self.assertGreater(told.count(0), 20)

    def test_samples(self):
        shorter = Model(ASKING.bounds, ASKING.server, {"k": [
            ("any", (("send", "ask", 1),)), ("any", (("take", "say", 2),)), ("first", (("else", 0),))]})
        self.assertEqual([self.compare(model, kind, place) for model, kind, place in all_seats([JOBS, shorter])],
                         [2, 1, 0])

    def test_whoever_is_caught_can_be_so_alone(self):
        beside = 0
        for model in random_models(25) + [ASKING]:
            system = model.made()
            states = {model.standing_of(state) for state in model.fixed_states((2,) * len(model.kinds))}
            for kind, place in model.seats:
                told, layers = caught(system, kind, place), Layers(system, stepping(model, kind, place))
                at = model.seats.index((kind, place))
                for standing in states:
                    if standing[2][at] and model.kinds[kind][place][1] and standing not in layers:
                        self.assertIn(standing[:2], told)
                        beside += sum(standing[2]) > 1
        self.assertGreater(beside, 20)


class EdgesTest(unittest.TestCase):
    def test_a_client_who_waits_for_an_answer_that_never_comes(self):
        # As many have asked and are not answered as questions are left.
        self.assertEqual(caught(ASKING.made(), "k", 1), [(2, ((1, False), (0, True)))])
        rude = Model(ASKING.bounds, ASKING.server, {**ASKING.kinds, "l": [("any", (("take", "say", 0),))]})
        self.assertEqual(caught(rude.made(), "k", 1), [(2, ((0, False), (0, True))), (2, ((1, False), (0, True)))])

    def test_a_place_without_arms_and_nothing_is_looked_at(self):
        self.assertEqual(caught(ASKING.made(), "k", 4, most=1), [])
        check_error(self, TooMany, {"most": 1}, caught, ASKING.made(), "k", 3, most=1)

    def test_an_else_arm_alone_is_never_caught(self):
        for place in (2, 3):
            self.assertEqual(caught(ASKING.made(), "k", place), [])

    def test_the_server_where_a_client_is_caught_need_not_stick(self):
        model = Model({"a": 1, "b": 1}, [("any", (("else", 0),))],
                      {"k": [("any", (("else", 1),)), ("any", (("take", "a", 0),))]})
        self.assertEqual(caught(model.made(), "k", 1), [(0, ((0, False), (0, False)))])
        # One who sends is enough for it to be caught nowhere.
        helped = Model(model.bounds, model.server, {**model.kinds, "l": [("any", (("send", "a", 0),))]})
        self.assertEqual(caught(helped.made(), "k", 1), [])

    def test_what_can_not_come_is_not_told(self):
        model = Model({"a": 1}, [("any", ())], {"k": [("any", (("send", "a", 1),)), ("any", (("ended", "a", 1),))]})
        self.assertEqual(caught(model.made(), "k", 1), [(0, ((1, False),))])

    def test_what_is_not_there(self):
        for kind in ("", "users", "k"):
            for place in (0, 1, 7):
                check_error(self, NoKind, {"kind": kind}, caught, jobs(), kind, place)
                check_error(self, NoKind, {"kind": kind}, caught, jobs(), kind, place, most=1)
        for place in (0, 2, -1, 10**30, True, None):
            check_error(self, NoSeat, {"place": place}, caught, jobs(), "user", place)
            check_error(self, NoSeat, {"place": place}, caught, jobs(), "user", place, most=1)
        check_error(self, NoKind, {"kind": ""}, caught, ALONE.made(), "", 1)
        check_error(self, NoSeat, {"place": 1}, caught, WAITING.made(), "usher", 1)


class TooManyTest(unittest.TestCase):
    def test_most_at_below_and_above_the_greatest_layer_that_is_looked_at(self):
        later = 0
        for model, kind, place in all_seats(random_models(25) + [JOBS, ASKING]):
            if not model.kinds[kind][place][1]:
                continue
            system, wished = model.made(), stepping(model, kind, place)
            layers = Layers(system, wished)
            found = [greatest(system, wished)]
            for spot in all_spots(model):
                standing = alone(model, spot, (kind, place))
                if standing not in layers:
                    found.append(greatest(system, [standing]))
            check_most(self, max(found), caught, system, kind, place)
            later += max(found) > found[0]
        self.assertGreater(later, 3)


class KeptTest(unittest.TestCase):
    def test_asking_by_turns_tells_the_same_whatever_becomes_of_the_results(self):
        one, other = ASKING.made(), PAIRS.made()
        told = [caught(one, "k", 1), caught(other, "l", 1)]
        kept = [list(row) for row in told]
        for row in told:
            row.clear()
        self.assertEqual([caught(one, "k", 1), caught(other, "l", 1)], kept)
        self.assertTrue(kept[0])
        self.assertEqual((one, other), (ASKING.made(), PAIRS.made()))
        self.assertEqual(caught(ASKING.turned().made(), "k", 1), kept[0])
        wide = Model({"ask": 2, "say": 2}, ASKING.server, ASKING.kinds)
        self.assertNotEqual(caught(wide.made(), "k", 1), kept[0])
        self.assertEqual(caught(ASKING.made(), "k", 1), kept[0])

    def test_equal_arguments_and_names_in_the_same_order(self):
        for model, kind, place in all_seats(random_models(25)):
            told = caught(model.made(), kind, place)
            self.assertEqual(caught(model.turned().made(), kind, place), told)
            self.assertEqual(caught(model.renamed(NEW).made(), NEW[kind], place), told)


if __name__ == "__main__":
    unittest.main()
