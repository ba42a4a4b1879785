"""[3], [5], [9], [11] and [62]: rounds that pass over an arm."""

import copy
import random
import unittest

from openlanes.errors import NoArm, NoPlace, TooMany
from openlanes.rounds import is_round, round_from, starving
from openlanes.ways import bar, can_come, way
from tests.byhand import Model, is_over, lowest, some_lively_model, some_model, some_standing
from tests.helpers import NEW, STRANGE, check_error, check_most, deep, greatest
from tests.samples import JOBS, WAITING

# The server takes what comes on one of two lanes; the arms 1 and 2 of its place 0 are equal.
CHOOSING = Model(
    {"a": 1, "b": 1},
    [
        ("any", (("take", "a", 1), ("take", "b", 0), ("take", "b", 0), ("else", 0))),
        ("first", (("else", 0),)),
        ("any", ()),
    ],
    {"k": [("any", (("send", "a", 1), ("send", "b", 0))), ("any", (("send", "a", 1), ("close", "b", 1)))]},
)

# A round here needs clients who come and go, and one who stays.
STAYING = Model(
    {"a": 1, "b": 1},
    [("any", (("take", "a", 1), ("take", "b", 0))), ("any", (("take", "b", 0), ("close", "b", 1)))],
    {"k": [("any", (("send", "a", 1),)), ("any", (("send", "b", 1), ("take", "a", 0)))]},
)


def arms_of(model):
    """The tuples (place, index) of the server's arms."""
    return [(place, index) for place, (_, arms) in enumerate(model.server) for index in range(len(arms))]


def least_ones(layer):
    """How many least ones a layer of a round has, among those of one place, content and moved."""
    return sum(len(lowest([x for x, was in layer if was is moved])) for moved in (False, True))


def is_enough(layers, most):
    """Whether the box of counts up to most was enough for the layers of a round."""
    lows = [low for moved in (False, True) for layer in layers for low in lowest([x for x, w in layer if w is moved])]
    return max([0] + [n for low in lows for n in low[2]]) < most


def small_models(many):
    """Models at random with some arms of the server, and with a box of counts that is not too great."""
    found = [make(random.Random(seed)) for seed in range(many) for make in (some_model, some_lively_model)]
    return [model for model in found if arms_of(model) and len(model.seats) * len(model.contents()) < 20]


class IsRoundTest(unittest.TestCase):
    def some_round(self, chance, model, standing, index, length):
        """Steps from the standing, often ones that a round may have."""
        now, steps = standing, []
        for _ in range(length):
            moves = model.round_steps(now, standing[0], index) if chance.random() < 0.9 else model.steps(now)
            if not moves:
                break
            step, now = chance.choice(moves)
            steps.append(step)
            if is_over(now, standing) and any(x[0] == "" for x in steps) and chance.random() < 0.7:
                break
        return steps

    def test_runs_at_random(self):
        told = {True: 0, False: 0}
        for seed in range(200):
            chance = random.Random(seed)
            model = chance.choice([some_model(chance), some_lively_model(chance), CHOOSING, STAYING])
            if not arms_of(model):
                continue
            system = model.made()
            for _ in range(10):
                place, index = chance.choice(arms_of(model))
                standing = (place, *some_standing(chance, model, 2)[1:])
                steps = self.some_round(chance, model, standing, index, chance.choice([1, 3, 8]))
                is_one = is_round(system, standing, index, steps)
                self.assertIs(is_one, model.is_round(standing, index, steps))
                told[is_one] += 1
        self.assertGreater(min(told.values()), 50)

    def check_changed(self, model, standing, index, steps):
        """Checks the round with one step out, one twice, one otherwise, with strange values, and cut."""
        system = model.made()
        others = [step for other in model.box(1)[::7] for step, _ in model.steps(other)]
        rows = [steps[:k] for k in range(len(steps))] + [steps[k:] for k in range(1, len(steps))] + [steps + steps]
        for k, step in enumerate(steps):
            rows += [steps[:k] + steps[k + 1:], steps[:k] + [step] + steps[k:]]
            rows += [steps[:k] + [other] + steps[k + 1:] for other in sorted(set(others))]
        for row in rows:
            self.assertIs(is_round(system, standing, index, row), model.is_round(standing, index, row))
        for k, (who, place, number) in enumerate(steps):
            strange = [None, who, [who, place, number], (who, place), (who, place, number, number), (None, place, number)]
            strange += [(who, bool(place), number), (who, place, bool(number)), (who, str(place), number), deep(20)]
            strange += [(place, who, number), ("x", place, number), (who, -1, number), (who, place, 7), (who, 7, number)]
            for thing in strange:
                self.assertIs(is_round(system, standing, index, steps[:k] + [thing] + steps[k + 1:]), False)
        for thing in (tuple(steps), dict(enumerate(steps)), None, "", (), {}, len(steps), [steps], True):
            self.assertIs(is_round(system, standing, index, thing), False)

    def test_changed_rounds(self):
        done = 0
        for model in [CHOOSING, STAYING, JOBS, WAITING] + small_models(80):
            for place, index in arms_of(model):
                for content in model.contents()[::3]:
                    standing = (place, content, (1,) * len(model.seats))
                    steps = round_from(model.made(), standing, index)
                    if steps:
                        self.assertIs(is_round(model.made(), standing, index, steps), True)
                        self.check_changed(model, standing, index, steps)
                        done += 1
        self.assertGreater(done, 60)

    def test_strange_values(self):
        system = CHOOSING.made()
        for thing in [*STRANGE, deep(30), [[]], [()], [None], []]:
            self.assertIs(is_round(system, (0, ((1, False), (1, False)), (0,)), 0, thing), False)

    def test_by_another_arm_means_one_with_another_index(self):
        system, standing = CHOOSING.made(), (0, ((0, False), (1, False)), (0,))
        for index, other in ((1, 2), (2, 1)):
            again = [("", 0, other), ("k", 0, 1)]
            self.assertIs(is_round(system, standing, index, again), True)
            self.assertIs(is_round(system, standing, other, again), False)
            self.assertEqual(round_from(system, standing, index), again)

    def test_the_arm_must_be_open_at_each_step_from_its_place(self):
        system, standing = CHOOSING.made(), (0, ((1, False), (1, False)), (0,))
        good = [("", 0, 1), ("k", 0, 1)]
        self.assertIs(is_round(system, standing, 0, good), True)
        self.assertIs(is_round(system, standing, 0, good[:1]), False)
        self.assertIs(is_round(system, standing, 0, good[1:]), False)
        self.assertIs(is_round(system, standing, 1, [("", 0, 0), ("", 1, 0), ("k", 0, 0)]), True)
        # Behind the first step the arm 1 is not open, so the next step may not be made from this place.
        less = (0, ((1, False), (1, False)), (1,))
        self.assertIs(is_round(system, less, 1, [("", 0, 2), ("", 0, 0), ("", 1, 0), ("k", 1, 0), ("k", 0, 1)]), False)
        self.assertIs(is_round(system, less, 1, [("", 0, 2), ("k", 0, 1)]), True)

    def test_an_arm_that_is_not_open(self):
        system = CHOOSING.made()
        self.assertIs(is_round(system, (0, ((0, False), (1, False)), (0,)), 0, [("", 0, 1), ("k", 0, 1)]), False)

    def test_the_mode_does_not_count_for_the_arm(self):
        model = Model({"a": 1}, [("first", (("send", "a", 0), ("take", "a", 0), ("close", "a", 0)))],
                      {"k": [("any", (("take", "a", 0), ("send", "a", 0)))]})
        system, standing = model.made(), (0, ((0, False),), ())
        for index, is_one in ((0, False), (1, False), (2, True)):
            self.assertIs(is_round(system, standing, index, [("", 0, 0), ("k", 0, 0)]), is_one)
        self.assertEqual(len(round_from(system, standing, 2)), 2)
        self.assertEqual(starving(system, 0, 2), [(0, ((0, False),), ()), (0, ((1, False),), ())])

    def test_clients_at_seats_may_be_more_behind_it(self):
        system, standing = STAYING.made(), (0, ((1, False), (1, False)), (1,))
        steps = [("", 0, 1), ("k", 1, 0)]
        self.assertIs(is_round(system, standing, 0, steps), True)
        more = [("", 0, 0), ("", 1, 0), ("k", 0, 0), ("k", 1, 0)]
        self.assertIs(is_round(system, standing, 1, more), True)
        fewer = [("", 0, 1), ("k", 1, 0), ("k", 1, 1), ("k", 0, 0), ("k", 1, 1)]
        self.assertTrue(system.is_run(standing, fewer))
        self.assertIs(is_round(system, standing, 0, fewer), False)
        self.assertIs(is_round(system, (0, ((1, False), (1, False)), (200,)), 0, steps), True)


class RoundFromTest(unittest.TestCase):
    def compare(self, model, standing, index, most):
        """Compares with a search of all runs and with a box of counts; returns whether the box was enough."""
        system = model.made()
        steps = round_from(system, standing, index)
        if steps is not None:
            self.assertTrue(model.is_round(standing, index, steps))
            self.assertIs(is_round(system, standing, index, steps), True)
        if not model.is_open(model.server, standing[0], index, standing[1]):
            self.assertIsNone(steps)
            return False
        fewest = model.fewest_round(standing, index, 4)
        self.assertEqual(fewest, len(steps) if steps is not None and len(steps) <= 4 else None)
        layers = model.round_layers(standing, index, most)
        if not is_enough(layers, most):
            return False
        ranks = [k for k, layer in enumerate(layers) if (standing, False) in layer]
        self.assertEqual(min(ranks, default=None), None if steps is None else len(steps))
        check_most(self, max(least_ones(layer) for layer in layers), round_from, system, standing, index)
        return True

    def test_systems_at_random(self):
        done, lengths = 0, {}
        for seed, model in enumerate(small_models(60)):
            chance = random.Random(seed)
            for place, index in arms_of(model):
                standing = (place, *some_standing(chance, model, 2)[1:])
                done += self.compare(model, standing, index, 4)
                lengths[len(round_from(model.made(), standing, index) or ())] = True
        self.assertGreater(done, 60)
        self.assertTrue({0, 1, 2, 3, 4} <= set(lengths), lengths)

    def test_samples(self):
        for model in (CHOOSING, STAYING, JOBS):
            for place, index in arms_of(model):
                for content in model.contents()[::2]:
                    for many in (0, 1):
                        self.compare(model, (place, content, (many,)), index, 4)

    def test_rounds_of_one_step(self):
        system, standing = CHOOSING.made(), (1, ((0, False), (0, False)), (0,))
        self.assertIsNone(round_from(system, standing, 0))
        model = Model({"a": 1, "b": 1}, [("any", (("ended", "a", 0), ("send", "b", 0)))], {})
        self.assertEqual(round_from(model.made(), (0, ((0, True), (0, False)), ()), 1), [("", 0, 0)])
        self.assertIsNone(round_from(model.made(), (0, ((0, True), (0, False)), ()), 0))

    def test_an_arm_that_is_not_open_and_nothing_is_looked_at(self):
        self.assertIsNone(round_from(CHOOSING.made(), (0, ((0, False), (1, False)), (0,)), 0, most=1))
        self.assertIsNone(round_from(CHOOSING.made(), (0, ((0, False), (1, False)), (0,)), 3, most=1))

    def test_an_else_arm_has_no_round(self):
        for model in (CHOOSING, JOBS):
            index = len(model.server[0][1]) - 1
            for content in model.contents():
                self.assertIsNone(round_from(model.made(), (0, content, (1,)), index))
                self.assertEqual(starving(model.made(), 0, index, stay=2), [])

    def test_clients_by_hundreds(self):
        system, short = STAYING.made(), (0, ((1, False), (1, False)), (1,))
        long = (0, ((1, False), (1, False)), (200,))
        self.assertEqual(round_from(system, short, 0), [("", 0, 1), ("k", 1, 0)])
        self.assertEqual(round_from(system, long, 0), [("", 0, 1), ("k", 1, 0)])
        self.assertIs(STAYING.is_round(long, 0, [("", 0, 1), ("k", 1, 0)]), True)

    def test_a_round_that_needs_one_who_stays(self):
        system = STAYING.made()
        self.assertIsNone(round_from(system, (0, ((1, True), (1, False)), (0,)), 0))
        self.assertEqual(round_from(system, (0, ((1, True), (1, False)), (1,)), 0), [("", 0, 1), ("k", 1, 0)])

    def test_above_a_standing_with_a_round_there_is_the_same_round(self):
        for model in (CHOOSING, STAYING):
            for content in model.contents():
                for index in (0, 1):
                    steps = round_from(model.made(), (0, content, (0,)), index)
                    if steps is not None:
                        self.assertIs(is_round(model.made(), (0, content, (3,)), index, steps), True)


class StarvingTest(unittest.TestCase):
    def looked_at(self, model, place, index, stay):
        found = []
        for x in model.box(stay):
            if x[0] == place and sum(x[2]) <= stay and model.is_open(model.server, place, index, x[1]):
                found.append(x)
        return sorted(found, key=lambda x: (sum(x[2]), x))

    def compare(self, model, place, index, stay):
        """Checks what is told and what is not, and the order of what is looked at; returns what is told."""
        system, told, most, after = model.made(), [], 1, 0
        for x in self.looked_at(model, place, index, stay):
            if any(is_over(x, low) for low in told):
                continue
            steps = round_from(system, x, index)
            most = max(most, self.greatest_round(model, x, index))
            if steps is not None:
                self.assertTrue(model.is_round(x, index, steps))
                most = max(most, greatest(system, [x]))
                if can_come(system, [x]):
                    self.assertTrue(is_over(system.run(system.first, way(system, [x]))[-1], x))
                    told.append(x)
                else:
                    self.assertTrue(model.is_bar([x], system.first, bar(system, [x])))
        self.assertEqual(check_most(self, most, starving, system, place, index, stay=stay), sorted(told))
        self.assertEqual(starving(system, place, index, stay=stay), lowest(told))
        return told

    def greatest_round(self, model, standing, index):
        """The least most with which round_from raises nothing; found by halving, as it is tested above."""
        low, high = 1, 2000
        while low < high:
            middle = (low + high) // 2
            try:
                round_from(model.made(), standing, index, most=middle)
                high = middle
            except TooMany:
                low = middle + 1
        return low

    def test_systems_at_random(self):
        told = []
        for model in small_models(35):
            for place, index in arms_of(model)[:3]:
                for stay in (0, 1):
                    told.append(len(self.compare(model, place, index, stay)))
        self.assertGreater(len([many for many in told if many]), 10)

    def test_samples(self):
        for model in (CHOOSING, STAYING, JOBS):
            for place, index in arms_of(model):
                rows = [self.compare(model, place, index, stay) for stay in (0, 1, 2)]
                self.assertTrue(set(rows[0]) <= set(rows[1]) <= set(rows[2]))

    def test_against_the_box(self):
        """All that have a round and can come, by boxes of counts alone."""
        found = 0
        for model in small_models(25):
            if len(model.seats) != 1:
                continue
            for place, index in arms_of(model)[:2]:
                good = []
                for x in self.looked_at(model, place, index, 1):
                    first = (model.made().first, False)
                    rounds, comes = model.round_layers(x, index, 4), model.layers([x], 4)
                    if (x, False) in rounds[-1] and first[0] in comes[-1]:
                        good.append(x)
                self.assertEqual(starving(model.made(), place, index, stay=1), lowest(good))
                found += len(good)
        self.assertGreater(found, 5)

    def test_stay(self):
        # The round needs one who stays at the seat 1.
        model = Model({"a": 1, "b": 2}, [("any", (("take", "a", 0), ("take", "b", 0)))],
                      {"k": [("any", (("send", "a", 1), ("send", "b", 1))), ("first", (("send", "b", 1),))]})
        system, more = model.made(), ((1, False), (1, False))
        self.assertIn((0, more, (0,)), starving(system, 0, 0))
        self.assertEqual(starving(system, 0, 0), starving(system, 0, 0, stay=0))
        model = Model({"a": 1, "b": 1}, [("any", (("take", "a", 0), ("take", "b", 0)))],
                      {"k": [("any", (("send", "a", 1),)), ("first", (("send", "b", 1),))]})
        system, told = model.made(), [(0, ((1, False), (0, False)), (1,)), (0, ((1, False), (1, False)), (1,))]
        self.assertEqual(starving(system, 0, 0), [])
        self.assertEqual(starving(system, 0, 0, stay=1), told)
        self.assertEqual(starving(system, 0, 0, stay=2), told)

    def test_two_who_stay(self):
        # While a is full nobody comes; one hands on to the other one, who sends what the server takes instead.
        model = Model(
            {"a": 1, "b": 1, "c": 1}, [("any", (("take", "a", 0), ("take", "b", 0)))],
            {
                "k": [("any", (("send", "a", 1),)), ("first", (("send", "c", 1),))],
                "l": [("any", (("send", "a", 1),)), ("any", (("take", "c", 2),)), ("any", (("send", "b", 1),))],
            },
        )
        self.assertEqual([self.compare(model, 0, 0, stay) for stay in (0, 1)], [[], []])
        told = self.compare(model, 0, 0, 2)
        self.assertEqual(len(told), 8)
        self.assertEqual({x[2] for x in told}, {(1, 1, 0), (1, 0, 1)})

    def test_without_kinds(self):
        model = Model({"a": 2}, [("any", (("send", "a", 0), ("take", "a", 1))), ("any", (("send", "a", 0),))], {})
        self.assertEqual(starving(model.made(), 0, 0, stay=2), [(0, ((1, False),), ())])
        self.assertEqual(self.compare(model, 0, 0, 2), [(0, ((1, False),), ())])


class ErrorsTest(unittest.TestCase):
    def test_indexes_that_are_not_there(self):
        system = JOBS.made()
        for index in (3, -1, 10**30, True, False, None, "0"):
            for thing in ([], None, [("", 0, 0)], deep(30)):
                check_error(self, NoArm, {"index": index}, is_round, system, system.first, index, thing)
            check_error(self, NoArm, {"index": index}, round_from, system, system.first, index)
            check_error(self, NoArm, {"index": index}, round_from, system, system.first, index, most=1)
            check_error(self, NoArm, {"index": index}, starving, system, 0, index)
            check_error(self, NoArm, {"index": index}, starving, system, 0, index, stay=2, most=1)
        ended = (1, system.lanes.first, (0,))
        check_error(self, NoArm, {"index": 0}, is_round, system, ended, 0, [])
        check_error(self, NoArm, {"index": 0}, round_from, system, ended, 0)
        check_error(self, NoArm, {"index": 0}, starving, system, 1, 0)

    def test_places_that_are_not_there_ahead_of_indexes(self):
        for place in (2, -1, 10**30, True, None):
            for index in (0, 3, -1):
                check_error(self, NoPlace, {"place": place}, starving, JOBS.made(), place, index)
                check_error(self, NoPlace, {"place": place}, starving, JOBS.made(), place, index, stay=2, most=1)

    def test_too_many(self):
        system, standing = STAYING.made(), (0, ((1, False), (1, False)), (1,))
        check_error(self, TooMany, {"most": 2}, round_from, system, standing, 0, most=2)
        check_error(self, TooMany, {"most": 2}, starving, system, 0, 0, most=2)


class KeptTest(unittest.TestCase):
    def test_asking_by_turns_tells_the_same_whatever_becomes_of_the_results(self):
        one, other, standing = CHOOSING.made(), STAYING.made(), (0, ((1, False), (1, False)), (1,))

        def ask():
            return [round_from(one, standing, 0), round_from(other, standing, 0), starving(one, 0, 0, stay=1),
                    starving(other, 0, 0, stay=2), starving(one, 0, 1)]
        told = ask()
        kept = copy.deepcopy(told)
        for row in told:
            self.assertTrue(row)
            row.clear()
        self.assertEqual(ask(), kept)
        self.assertEqual((one, other), (CHOOSING.made(), STAYING.made()))
        one, other = CHOOSING.turned().made(), STAYING.turned().made()
        self.assertEqual(ask(), kept)
        self.assertEqual(standing, (0, ((1, False), (1, False)), (1,)))

    def test_is_round_changes_nothing(self):
        steps = [("", 0, 1), ("k", 0, 1)]
        self.assertIs(is_round(CHOOSING.made(), (0, ((1, False), (1, False)), (0,)), 0, steps), True)
        self.assertEqual(steps, [("", 0, 1), ("k", 0, 1)])

    def test_the_same_programs_over_other_lanes(self):
        more = Model({"a": 2, "b": 2}, STAYING.server, STAYING.kinds)
        for _ in range(2):
            for model in (STAYING, more):
                for standing in starving(model.made(), 0, 0, stay=1):
                    self.assertTrue(model.is_round(standing, 0, round_from(model.made(), standing, 0)))
        self.assertNotEqual(starving(STAYING.made(), 0, 0, stay=1), starving(more.made(), 0, 0, stay=1))

    def test_equal_arguments_and_names_in_the_same_order(self):
        for seed, model in enumerate(small_models(40)):
            chance = random.Random(seed)
            one, other, third = model.made(), model.turned().made(), model.renamed(NEW).made()
            for place, index in arms_of(model):
                standing = (place, *some_standing(chance, model, 2)[1:])
                steps = round_from(one, standing, index)
                self.assertEqual(round_from(other, standing, index), steps)
                if steps is not None:
                    steps = [(NEW[who], place, index) for who, place, index in steps]
                self.assertEqual(round_from(third, standing, index), steps)
                for system in (other, third):
                    self.assertEqual(starving(system, place, index), starving(one, place, index))


if __name__ == "__main__":
    unittest.main()
