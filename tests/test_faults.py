"""[3], [11] and [70]: sends and closes that are met at a closed lane."""

import random
import unittest

from openlanes.errors import TooMany
from openlanes.faults import faults
from openlanes.ways import bar, can_come, way
from tests.byhand import Model, is_over, some_lively_model, some_model
from tests.helpers import NEW, check_error, check_most, greatest
from tests.samples import ALONE, JOBS, PAIRS, WAITING

# The client closes what the server sends into; the client at the seat 1 closes it once more.
CLOSING = Model(
    {"a": 1, "b": 1},
    [("any", (("send", "a", 0), ("take", "b", 1), ("else", 0))), ("first", (("take", "a", 0), ("send", "b", 0)))],
    {"k": [("any", (("close", "a", 1), ("send", "b", 0))), ("any", (("close", "a", 0), ("take", "a", 0)))]},
)


def random_models(many):
    return [make(random.Random(seed)) for seed in range(many) for make in (some_model, some_lively_model)]


def homes(model):
    """The tuples (who, place) of the places of the server and the seats."""
    return [("", place) for place in range(len(model.server))] + model.seats


def arms_of(model, who, place):
    return (model.kinds[who] if who else model.server)[place][1]


def all_spots(model):
    """The spots of all sends and closes."""
    return [(who, place, index) for who, place in homes(model)
            for index, arm in enumerate(arms_of(model, who, place)) if arm[0] in ("send", "close")]


def closed_ones(model, spot):
    """The wished standings: just this program at its place while its arm's lane is closed."""
    who, place, index = spot
    lane = model.names.index(arms_of(model, who, place)[index][1])
    counts = tuple(int(seat == (who, place)) for seat in model.seats)
    places = range(len(model.server)) if who else [place]
    return [(at, content, counts) for at in places for content in model.contents() if content[lane][1]]


class AgainstRunsTest(unittest.TestCase):
    def compare(self, model):
        """Checks each spot that is told and each that is not; returns how many are told."""
        system = model.made()
        told = faults(system)
        self.assertIs(told.__class__, list)
        self.assertEqual(told, sorted(set(told)))
        self.assertTrue(set(told) <= set(all_spots(model)))
        for spot in all_spots(model):
            wished = closed_ones(model, spot)
            if spot in told:
                end = system.run(system.first, way(system, wished))[-1]
                self.assertTrue(any(is_over(end, y) for y in wished))
            else:
                self.assertFalse(can_come(system, wished))
                self.assertTrue(model.is_bar(wished, system.first, bar(system, wished)))
        self.assertEqual(self.met_by_few(model) - set(told), set())
        return len(told)

    def met_by_few(self, model):
        """The spots that are met while the lane is closed by two clients of each kind."""
        found = set()
        states = [model.standing_of(state) for state in model.fixed_states((2,) * len(model.kinds))]
        for spot in all_spots(model):
            lane = model.names.index(arms_of(model, *spot[:2])[spot[2]][1])
            for place, content, counts in states:
                here = counts[model.seats.index(spot[:2])] if spot[0] else place == spot[1]
                if here and content[lane][1]:
                    found.add(spot)
        return found

    def test_systems_at_random(self):
        told = [self.compare(model) for model in random_models(70)]
        self.assertGreater(len([many for many in told if many]), 10)
        self.assertGreater(told.count(0), 20)

    def test_samples(self):
        for model in (JOBS, ALONE, PAIRS, CLOSING):
            self.compare(model)


class EdgesTest(unittest.TestCase):
    def test_the_example(self):
        model = Model({"note": 2}, [("any", (("close", "note", 1),)), ("any", (("send", "note", 1),))], {})
        self.assertEqual(faults(model.made()), [("", 1, 0)])

    def test_clients_at_seats_and_the_server(self):
        self.assertEqual(faults(CLOSING.made()), [("", 0, 0), ("k", 1, 0)])

    def test_a_close_that_is_met_twice(self):
        model = Model({"a": 1}, [("any", (("close", "a", 0),))], {})
        self.assertEqual(faults(model.made()), [("", 0, 0)])
        model = Model({"a": 1}, [("any", (("close", "a", 1),)), ("any", (("close", "a", 1), ("close", "a", 0)))], {})
        self.assertEqual(faults(model.made()), [("", 1, 0), ("", 1, 1)])

    def test_lanes_that_nobody_closes(self):
        for model in (JOBS, WAITING):
            self.assertEqual(faults(model.made()), [])

    def test_a_client_at_place_0_is_at_no_seat(self):
        model = Model({"a": 1}, [("any", (("close", "a", 1),)), ("any", ())], {"k": [("any", (("send", "a", 0),))]})
        self.assertEqual(faults(model.made()), [])

    def test_takes_ends_and_else_arms_are_none(self):
        model = Model({"a": 1}, [("any", (("close", "a", 1),)), ("any", (("take", "a", 1), ("ended", "a", 1)))],
                      {"k": [("any", (("else", 1),)), ("first", (("ended", "a", 0), ("else", 1), ("take", "a", 0)))]})
        self.assertEqual(faults(model.made()), [])

    def test_the_mode_and_what_the_place_takes_do_not_count(self):
        # The send is met though the place takes the else arm of another lane first.
        model = Model({"a": 1, "b": 1}, [("first", (("close", "b", 1),)), ("first", (("send", "a", 1), ("send", "b", 0)))],
                      {})
        self.assertEqual(faults(model.made()), [("", 1, 1)])


class TooManyTest(unittest.TestCase):
    def test_most_at_below_and_above_the_greatest_layer_of_all_spots(self):
        not_told = 0
        for model in random_models(30) + [CLOSING, JOBS]:
            system, told = model.made(), faults(model.made())
            found = {spot: greatest(system, closed_ones(model, spot)) for spot in all_spots(model)}
            check_most(self, max(found.values(), default=0), faults, system)
            not_told += max(found.values(), default=0) > max([0] + [found[spot] for spot in told])
        self.assertGreater(not_told, 10)

    def test_no_spot_at_all(self):
        model = Model({"a": 3}, [("any", (("take", "a", 0), ("ended", "a", 0), ("else", 0)))], {})
        self.assertEqual(faults(model.made(), most=1), [])

    def test_too_many_wished_ones(self):
        model = Model({"a": 3}, [("any", (("send", "a", 0),))], {"k": [("any", ()), ("any", (("send", "a", 0),))]})
        check_error(self, TooMany, {"most": 3}, faults, model.made(), most=3)
        self.assertEqual(faults(model.made(), most=20), [])


class KeptTest(unittest.TestCase):
    def test_asking_by_turns_tells_the_same_whatever_becomes_of_the_results(self):
        one, other = CLOSING.made(), PAIRS.made()
        told = [faults(one), faults(other)]
        kept = [list(row) for row in told]
        for row in told:
            row.clear()
        self.assertEqual([faults(one), faults(other)], kept)
        self.assertEqual(faults(CLOSING.turned().made()), kept[0])
        self.assertEqual((one, other), (CLOSING.made(), PAIRS.made()))

    def test_equal_arguments_and_names_in_the_same_order(self):
        for model in random_models(25):
            told = faults(model.made())
            self.assertEqual(faults(model.turned().made()), told)
            renamed = [(NEW[who], place, index) for who, place, index in told]
            self.assertEqual(faults(model.renamed(NEW).made()), renamed)


if __name__ == "__main__":
    unittest.main()
