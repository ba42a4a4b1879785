"""[3], [8], [11] and [60]: where the server sticks, and what frees it."""

import copy
import random
import unittest

from openlanes.errors import NoPlace, TooMany
from openlanes.lanes import Lanes
from openlanes.layers import Layers
from openlanes.programs import Program
from openlanes.stuck import freeing, stuck
from openlanes.systems import System
from openlanes.ways import bar, can_come, way
from tests.byhand import Model, is_over, some_model
from tests.helpers import NEW, STRANGE, check_error, check_most, greatest
from tests.samples import ALONE, JOBS, WAITING, jobs

# The document's example: nobody sends a job.
PLAIN = Model(
    {"job": 1, "stop": 1},
    [("any", (("take", "job", 1),)), ("any", (("take", "job", 1),))],
    {"one": [("any", (("send", "stop", 0),))]},
)

# The server sticks behind a close that only a client at the seat 1 makes; an else arm alone and no arms never stick.
SHUTTING = Model(
    {"a": 1, "b": 1},
    [
        ("first", (("take", "b", 1), ("take", "a", 2), ("send", "a", 0))),
        ("any", (("else", 2),)),
        ("any", ()),
    ],
    {"k": [("any", (("send", "a", 1), ("take", "a", 0))), ("first", (("close", "a", 0), ("else", 0)))]},
)


def bare(model, spot):
    return (*spot, (0,) * len(model.seats))


def all_spots(model):
    return [(place, content) for place in range(len(model.server)) for content in model.contents()]


def free_spots(model):
    """The bare standings in which the server can make a step."""
    return [bare(model, spot) for spot in all_spots(model) if model.moves(model.server, *spot)]


def random_models(many):
    return [some_model(random.Random(seed)) for seed in range(many)]


class FreeingTest(unittest.TestCase):
    def compare(self, model, spot):
        """Checks a freeing run, or that a list bars all newcomers from moving the server; returns its length."""
        system, start, wished = model.made(), bare(model, spot), free_spots(model)
        steps = freeing(system, *spot)
        fewest = model.fewest(start, wished, 5, held=True)
        if steps is None:
            self.assertIsNone(fewest)
            layers = Layers(system, wished, held=True)
            self.assertTrue(model.is_bar(wished, start, layers.layer(layers.last), held=True))
            return None
        self.assertTrue(system.is_run(start, steps))
        self.assertEqual([step[0] == "" for step in steps], [False] * (len(steps) - 1) + [True])
        self.assertEqual(fewest, len(steps) - 1 if len(steps) <= 6 else None)
        return len(steps)

    def test_systems_at_random(self):
        told = {self.compare(model, spot) for model in random_models(45) for spot in all_spots(model)[::3]}
        self.assertTrue({None, 1, 2, 3} <= told)

    def test_samples(self):
        for model in (JOBS, WAITING, PLAIN, SHUTTING, ALONE):
            for spot in all_spots(model):
                self.compare(model, spot)

    def test_several_clients_who_help_one_another(self):
        model = Model({"a": 1, "b": 1}, [("any", (("take", "b", 0),))],
                      {"k": [("any", (("send", "a", 1), ("take", "a", 2))), ("any", ()), ("any", (("send", "b", 2),))]})
        self.assertEqual(freeing(model.made(), 0, model.contents()[0]),
                         [("k", 0, 0), ("k", 0, 1), ("k", 2, 0), ("", 0, 0)])

    def test_the_server_moves_at_once(self):
        self.assertEqual(freeing(jobs(), 0, jobs().lanes.first), [("", 0, 2)])
        self.assertEqual(freeing(jobs(), 0, ((1, False), (1, False))), [("", 0, 0)])
        self.assertEqual(freeing(SHUTTING.made(), 1, ((0, True), (0, True))), [("", 1, 0)])

    def test_a_place_without_arms(self):
        for content in JOBS.contents():
            self.assertIsNone(freeing(jobs(), 1, content))

    def test_without_kinds(self):
        system = ALONE.made()
        self.assertEqual(freeing(system, 1, ((0, True),)), [("", 1, 1)])
        self.assertIsNone(freeing(system, 1, ((0, False),)))
        self.assertIsNone(freeing(system, 0, ((0, True),)))

    def test_places_that_are_not_there(self):
        system = jobs()
        for place in (2, 3, -1, 10**30):
            check_error(self, NoPlace, {"place": place}, freeing, system, place, system.lanes.first)
            check_error(self, NoPlace, {"place": place}, freeing, system, place, system.lanes.first, most=1)
        for thing in STRANGE:
            if isinstance(thing, (int, str)) or thing is None:
                check_error(self, NoPlace, {"place": thing}, freeing, system, thing, system.lanes.first)


class StuckTest(unittest.TestCase):
    def compare(self, model):
        """Checks each tuple that is told and each that is not; returns how many are told."""
        system = model.made()
        told = stuck(system)
        self.assertEqual(told, sorted(set(told)))
        self.assertTrue(set(told) <= set(all_spots(model)))
        nothing_more = 0
        for spot in all_spots(model):
            start = bare(model, spot)
            steps = freeing(system, *spot)
            if spot in told:
                end = system.run(system.first, way(system, [start]))[-1]
                self.assertTrue(is_over(end, start))
                self.assertTrue(model.server[spot[0]][1])
                self.check_nobody_moves_it(model, spot)
            elif model.server[spot[0]][1] and steps is None:
                self.assertFalse(can_come(system, [start]))
                self.assertTrue(model.is_bar([start], system.first, bar(system, [start])))
            elif steps is None:
                nothing_more += 1
            else:
                self.assertEqual(system.run(start, steps[:-1])[-1][0], spot[0])
        return len(told)

    def check_nobody_moves_it(self, model, spot):
        """Looks at all runs of two clients of each kind beside the server, and at the bar for any number."""
        states = model.fixed_states((2,) * len(model.kinds), bare(model, spot), held=True)
        for state in states:
            self.assertEqual(model.moves(model.server, *state[:2]), [])
        layers = Layers(model.made(), free_spots(model), held=True)
        lows = layers.layer(layers.last)
        self.assertTrue(model.is_bar(free_spots(model), bare(model, spot), lows, held=True))

    def test_systems_at_random(self):
        told = [self.compare(model) for model in random_models(60)]
        self.assertGreater(len([many for many in told if many]), 15)
        self.assertGreater(told.count(0), 15)

    def test_samples(self):
        self.assertEqual([self.compare(model) for model in (JOBS, WAITING, PLAIN, ALONE)], [0, 0, 2, 0])
        self.assertGreater(self.compare(SHUTTING), 0)

    def test_whoever_sticks_the_server_sticks_with_nobody_at_a_seat(self):
        beside = 0
        for model in random_models(60) + [PLAIN, SHUTTING]:
            system = model.made()
            told, layers = stuck(system), Layers(system, free_spots(model), held=True)
            for state in model.fixed_states((2,) * len(model.kinds)):
                standing = model.standing_of(state)
                if model.server[standing[0]][1] and standing not in layers:
                    self.assertIn(standing[:2], told)
                    beside += any(standing[2])
        self.assertGreater(beside, 25)

    def test_clients_at_seats_may_free_what_newcomers_do_not(self):
        # Behind the close nobody comes any more: the server sticks with nobody at a seat, not with one at the seat 1.
        model = Model({"a": 1, "b": 1}, [("first", (("close", "a", 1),)), ("any", (("take", "b", 0),))],
                      {"k": [("any", (("send", "a", 1),)), ("any", (("send", "b", 1),))]})
        system, shut = model.made(), ((0, True), (0, False))
        self.assertIn((1, shut), stuck(system))
        self.assertIsNone(freeing(system, 1, shut))
        self.assertTrue(system.is_run((1, shut, (1,)), [("k", 1, 0), ("", 1, 0)]))


class EdgesTest(unittest.TestCase):
    def test_the_examples(self):
        self.assertEqual((stuck(jobs()), freeing(jobs(), 1, jobs().lanes.first)), ([], None))
        self.assertEqual(stuck(PLAIN.made()), [(0, ((0, False), (0, False))), (0, ((0, False), (1, False)))])

    def test_a_place_without_arms_has_ended(self):
        for modes in ("any", "first"):
            system = System(Lanes({"a": 1}), Program([(modes, [])]), {})
            self.assertEqual((stuck(system), freeing(system, 0, ((0, False),))), ([], None))

    def test_an_else_arm_alone_never_sticks(self):
        system = System(Lanes({"a": 1}), Program([("any", [("else", 0)])]), {})
        self.assertEqual((stuck(system), freeing(system, 0, ((1, True),))), ([], [("", 0, 0)]))

    def test_what_can_not_come_does_not_stick(self):
        system = System(Lanes({"a": 1}), Program([("any", [("send", "a", 1)]), ("any", [("take", "a", 0)])]), {})
        self.assertEqual(stuck(system), [])
        self.assertIsNone(freeing(system, 1, ((0, False),)))
        system = System(Lanes({"a": 1}), Program([("any", [("send", "a", 1)]), ("any", [("ended", "a", 0)])]), {})
        self.assertEqual(stuck(system), [(1, ((1, False),))])


class TooManyTest(unittest.TestCase):
    def test_most_at_below_and_above_the_greatest_layer_that_is_looked_at(self):
        later = 0
        for model in random_models(60) + [JOBS, PLAIN, SHUTTING]:
            system = model.made()
            held = greatest(system, free_spots(model), held=True)
            looked_at = [bare(model, spot) for spot in all_spots(model)
                         if model.server[spot[0]][1] and freeing(system, *spot) is None]
            free = max([greatest(system, [standing]) for standing in looked_at], default=0)
            check_most(self, max(held, free), stuck, system)
            for spot in all_spots(model)[::5]:
                check_most(self, held, freeing, system, *spot)
            later += free > held
        self.assertGreater(later, 3)

    def test_too_many_wished_ones(self):
        many = len(free_spots(JOBS))
        check_error(self, TooMany, {"most": many - 1}, freeing, jobs(), 1, jobs().lanes.first, most=many - 1)
        check_error(self, TooMany, {"most": many - 1}, stuck, jobs(), most=many - 1)
        self.assertEqual(stuck(jobs(), most=many), [])


class KeptTest(unittest.TestCase):
    def test_asking_by_turns_tells_the_same_whatever_becomes_of_the_results(self):
        one, other = PLAIN.made(), SHUTTING.made()

        def ask():
            full = ((1, False), (0, False))
            return [stuck(one), stuck(other), freeing(other, 0, full), freeing(one, 0, full)]
        told = ask()
        kept = copy.deepcopy(told)
        for row in told:
            self.assertTrue(row)
            row.clear()
        self.assertEqual(ask(), kept)
        one, other = PLAIN.turned().made(), SHUTTING.turned().made()
        self.assertEqual(ask(), kept)
        self.assertEqual((one, other), (PLAIN.made(), SHUTTING.made()))

    def test_equal_arguments_and_names_in_the_same_order(self):
        for model in random_models(40):
            one, other, third = model.made(), model.turned().made(), model.renamed(NEW).made()
            self.assertEqual(stuck(one), stuck(other))
            self.assertEqual(stuck(one), stuck(third))
            for spot in all_spots(model)[::4]:
                steps = freeing(one, *spot)
                self.assertEqual(freeing(other, *spot), steps)
                if steps is not None:
                    steps = [(NEW[who], place, index) for who, place, index in steps]
                self.assertEqual(freeing(third, *spot), steps)


if __name__ == "__main__":
    unittest.main()
