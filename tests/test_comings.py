"""[3], [11] and [90]: where the clients of a fixed crowd can come."""

import copy
import random
import unittest

from openlanes.comings import comings
from openlanes.errors import TooMany
from openlanes.lanes import Lanes
from openlanes.programs import Program
from openlanes.systems import System
from openlanes.tables import alike
from tests.byhand import Model, some_model, some_places
from tests.byrows import BOUNDS, Bare, some_servers
from tests.helpers import NEW, check_error
from tests.samples import ALONE, JOBS, PAIRS, WAITING, jobs

END = [("any", ())]


def part_of(model, row):
    """The clients' part for a row with a count for each place of each kind."""
    counts = dict(zip(model.everywhere, row))
    return tuple(tuple(counts[kind, place] for place in range(len(model.kinds[kind]))) for kind in sorted(model.kinds))


def by_hand(model, crowd):
    """The list of the clients' parts that come, and the number of the tuples (place, content, clients' part)."""
    states = model.fixed_states(crowd)
    return sorted({part_of(model, state[2]) for state in states}), len(states)


def some_crowd(chance, model, numbers=(0, 1, 1, 2, 3)):
    return tuple(chance.choice(numbers) for _ in model.kinds)


class AgainstAllStepsTest(unittest.TestCase):
    def compare(self, model, crowd):
        """Compares with a search of all steps, also with most at, below and above; returns how many parts come."""
        system = model.made()
        told, many = by_hand(model, crowd)
        for most in (many, many + 1, 10000):
            found = comings(system, crowd, most=most)
            self.assertIs(found.__class__, list)
            self.assertEqual(repr(found), repr(told))
        for most in {1, many // 2, many - 1}:
            if 0 < most < many:
                check_error(self, TooMany, {"most": most}, comings, system, crowd, most=most)
        return len(told)

    def test_systems_at_random(self):
        told = []
        for seed in range(150):
            chance = random.Random(seed)
            model = some_model(chance)
            told.append(self.compare(model, some_crowd(chance, model, (0, 1, 2, 4, 6))))
        self.assertGreater(told.count(1), 10)
        self.assertGreater(len([many for many in told if many > 5]), 12)

    def test_samples(self):
        for model in (JOBS, WAITING, PAIRS, ALONE):
            for seed in range(4):
                self.compare(model, some_crowd(random.Random(seed), model))


class EdgesTest(unittest.TestCase):
    def test_a_crowd_of_one(self):
        system = jobs()
        self.assertEqual(comings(system, (1,)), [((0, 1),), ((1, 0),)])
        self.assertEqual(comings(system, (0,)), [((0, 0),)])
        self.assertEqual(comings(system, (2,)), [((0, 2),), ((1, 1),), ((2, 0),)])

    def test_nobody_of_a_kind(self):
        self.assertEqual(comings(PAIRS.made(), (0, 0)), [((0, 0, 0), (0, 0))])
        self.assertEqual(comings(PAIRS.made(), (1, 0)), by_hand(PAIRS, (1, 0))[0])
        self.assertEqual(comings(PAIRS.made(), (0, 3)), by_hand(PAIRS, (0, 3))[0])

    def test_without_kinds(self):
        system = ALONE.made()
        many = by_hand(ALONE, ())[1]
        self.assertEqual(comings(system, ()), [()])
        self.assertEqual(comings(system, (), most=many), [()])
        check_error(self, TooMany, {"most": many - 1}, comings, system, (), most=many - 1)

    def test_kinds_of_one_place(self):
        model = Model({"a": 1}, END, {"k": [("any", (("send", "a", 0), ("take", "a", 0)))], "l": END})
        self.assertEqual(comings(model.made(), (2, 1)), [((2,), (1,))])
        self.assertEqual(comings(model.made(), (2, 1), most=2), [((2,), (1,))])
        check_error(self, TooMany, {"most": 1}, comings, model.made(), (2, 1), most=1)

    def test_the_first_tuple_counts_alone(self):
        system = System(Lanes({"a": 1}), Program(END), {"k": Program(END)})
        self.assertEqual(comings(system, (40,), most=1), [((40,),)])

    def test_who_comes_back_to_place_0_is_there_again(self):
        # One client goes to and fro; nobody new comes, and nobody gives up.
        model = Model({"a": 1}, END, {"k": [("any", (("else", 1),)), ("any", (("else", 2),)), ("any", (("else", 0),))]})
        self.assertEqual(comings(model.made(), (1,)), [((0, 0, 1),), ((0, 1, 0),), ((1, 0, 0),)])
        self.assertEqual(len(comings(model.made(), (40,))), 42 * 41 // 2)

    def test_clients_who_stay_for_ever(self):
        model = Model({"a": 1}, END, {"k": [("any", (("send", "a", 1),)), ("any", ())]})
        self.assertEqual(comings(model.made(), (3,)), [((2, 1),), ((3, 0),)])
        freed = Model({"a": 1}, [("any", (("take", "a", 0),))], model.kinds)
        self.assertEqual(comings(freed.made(), (3,)), [((n, 3 - n),) for n in range(4)])

    def test_most_is_2000_if_it_is_not_passed(self):
        kinds = {"k": [("any", (("else", 1),)), ("any", (("else", 2),)), ("any", ())]}
        model = Model({"a": 1}, END, {**kinds, "l": [("any", (("else", 1),)), ("any", ())]})
        # There are (n + 1) * (n + 2) / 2 parts of n clients of the kind k, times n + 1 of the kind l.
        self.assertEqual(len(comings(model.made(), (30, 3))), 496 * 4)
        check_error(self, TooMany, {"most": 2000}, comings, model.made(), (40, 2))
        self.assertEqual(len(comings(model.made(), (40, 2), most=2583)), 2583)


class AlikeTest(unittest.TestCase):
    def test_alike_servers_let_the_same_come(self):
        told = [0, 0]
        for seed in range(150):
            chance = random.Random(seed)
            bare = Bare(chance.choice(BOUNDS))
            one, other = some_servers(chance, bare.bounds)
            same = alike(bare.lanes, Program(one), Program(other), most=10000)
            names = sorted(bare.bounds)
            kinds = {kind: some_places(chance, names, chance.randint(2, 3), 3) for kind in chance.choice(["k", "kl"])}
            for _ in range(2):
                models = [Model(bare.bounds, server, kinds) for server in (one, other)]
                crowd = some_crowd(chance, models[0])
                found = [comings(model.made(), crowd, most=10000) for model in models]
                if same:
                    self.assertEqual(found[0], found[1])
                told[found[0] == found[1]] += same
        self.assertEqual(told[0], 0)
        self.assertGreater(told[1], 50)


class KeptTest(unittest.TestCase):
    def test_the_arguments_stay_and_what_is_returned_is_new(self):
        system, crowd = PAIRS.made(), (2, 1)
        told = comings(system, crowd)
        again = copy.deepcopy(told)
        told.clear()
        self.assertEqual(comings(system, crowd), again)
        self.assertEqual((system, crowd), (PAIRS.made(), (2, 1)))

    def test_by_turns(self):
        systems = [JOBS.made(), PAIRS.made(), WAITING.made()]
        crowds = [(2,), (1, 2), (2, 1)]
        told = [[comings(system, crowd) for system, crowd in zip(systems, crowds)] for _ in range(2)]
        self.assertEqual(told[0], told[1])

    def test_equal_arguments_and_names_in_the_same_order(self):
        for seed in range(40):
            chance = random.Random(seed)
            model = some_model(chance)
            crowd = some_crowd(chance, model)
            told = comings(model.made(), crowd, most=10000)
            self.assertEqual(comings(model.turned().made(), crowd, most=10000), told)
            self.assertEqual(comings(model.renamed(NEW).made(), crowd, most=10000), told)


if __name__ == "__main__":
    unittest.main()
