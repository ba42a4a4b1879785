"""[2], [3] and [40]: the least standings of a list, and those one step ahead of a standing."""

import copy
import random
import unittest

from openlanes.least import before, least
from tests.byhand import is_over, lowest, some_model, some_standing
from tests.samples import ALONE, JOBS, PAIRS, WAITING, jobs


class LeastTest(unittest.TestCase):
    def test_lists_at_random(self):
        for seed in range(60):
            chance = random.Random(seed)
            model = some_model(chance)
            system = model.made()
            rows = [some_standing(chance, model, chance.choice([2, 12, 200])) for _ in range(chance.randint(0, 40))]
            rows = rows + rows[::3]
            chance.shuffle(rows)
            self.assertEqual(least(system, rows), lowest(rows))

    def test_many_standings_of_one_place(self):
        chance = random.Random(7)
        system = PAIRS.made()
        rows = [(0, system.lanes.first, tuple(chance.randint(0, 12) for _ in range(3))) for _ in range(400)]
        self.assertEqual(least(system, rows), lowest(rows))

    def test_none_one_and_equal_ones(self):
        system = jobs()
        self.assertEqual(least(system, []), [])
        self.assertEqual(least(system, [system.first]), [system.first])
        self.assertEqual(least(system, [system.first] * 3), [system.first])

    def test_counts_that_can_not_be_compared(self):
        system = PAIRS.made()
        content = system.lanes.first
        rows = [(0, content, counts) for counts in [(0, 2, 0), (200, 0, 0), (0, 0, 10**20), (1, 2, 0), (0, 1, 210)]]
        self.assertEqual(least(system, rows), [rows[2], rows[4], rows[0], rows[1]])

    def test_other_places_and_contents_do_not_matter(self):
        system = jobs()
        rows = [(place, content, (place + 1,)) for place in (1, 0) for content in reversed(JOBS.contents())]
        self.assertEqual(least(system, rows), sorted(rows))

    def test_the_list_stays_and_the_result_is_new(self):
        system = jobs()
        rows = [(1, system.lanes.first, (2,)), (1, system.lanes.first, (1,))]
        kept = copy.deepcopy(rows)
        for _ in range(2):
            found = least(system, rows)
            self.assertEqual(found, kept[1:])
            found.clear()
            self.assertEqual(rows, kept)


class BeforeTest(unittest.TestCase):
    def compare(self, model, standing):
        system = model.made()
        for held in (False, True):
            found = before(system, standing, held=held)
            self.assertEqual(found, model.before(standing, held))
            self.assertEqual(found, sorted(found))
            for low in found:
                self.assertIs(system.is_standing(low), True)
        self.assertEqual(before(system, standing), before(system, standing, held=False))

    def test_systems_at_random(self):
        for seed in range(60):
            chance = random.Random(seed)
            model = some_model(chance)
            self.compare(model, some_standing(chance, model, 2))

    def test_samples_with_all_contents(self):
        for model in (JOBS, WAITING, ALONE):
            for place in range(len(model.server)):
                for content in model.contents():
                    self.compare(model, (place, content, (0,) * len(model.seats)))
        chance = random.Random(1)
        for model in (WAITING, PAIRS):
            for _ in range(12):
                self.compare(model, some_standing(chance, model, 1))

    def test_steps_to_and_from_place_0(self):
        system = jobs()
        content = ((1, False), (0, False))
        self.assertEqual(before(system, (1, content, (0,)), held=True), [(1, system.lanes.first, (0,))])
        self.assertEqual(before(system, (1, content, (1,)), held=True), [(1, system.lanes.first, (0,))])
        self.assertEqual(before(system, (1, content, (200,)), held=True), [(1, system.lanes.first, (199,))])
        content = ((0, False), (1, False))
        self.assertEqual(before(system, (1, content, (200,)), held=True), [(1, system.lanes.first, (201,))])

    def test_held_leaves_out_the_server(self):
        system = jobs()
        standing = (1, system.lanes.first, (0,))
        self.assertEqual(before(system, standing), [(0, ((0, False), (1, False)), (0,))])
        self.assertEqual(before(system, standing, held=True), [])

    def test_what_is_passed_stays_and_the_result_is_new(self):
        system = PAIRS.made()
        standing = (1, ((0, False), (0, False)), (0, 1, 0))
        found = before(system, standing)
        self.assertTrue(found)
        kept = list(found)
        found.clear()
        self.assertEqual(before(system, standing), kept)
        self.assertEqual(system, PAIRS.made())

    def test_above_is_what_one_step_leads_from(self):
        for seed in range(40):
            chance = random.Random(seed)
            model = some_model(chance)
            system = model.made()
            for _ in range(5):
                start = some_standing(chance, model, 3)
                for step in system.steps(start):
                    lows = before(system, system.after(start, step), held=False)
                    self.assertTrue(any(is_over(start, low) for low in lows))


if __name__ == "__main__":
    unittest.main()
