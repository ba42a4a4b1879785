"""[3]: the very same Programs over several Lanes, asked by turns, tell what new ones tell."""

import random
import unittest

from openlanes.bounds import safe_bounds
from openlanes.caught import caught
from openlanes.crowds import least_crowds, way_of
from openlanes.faults import faults
from openlanes.lanes import Lanes
from openlanes.layers import Layers
from openlanes.programs import Program
from openlanes.rounds import round_from, starving
from openlanes.stuck import freeing, stuck
from openlanes.systems import System
from openlanes.taken import never_taken
from openlanes.together import together
from openlanes.ways import bar, way
from tests.byhand import Model, some_lively_model, some_model
from tests.samples import JOBS, PAIRS


def everything(system):
    """What all functions tell of a system."""
    wished = [system.at(system.server.size - 1, system.lanes.first, {seat: 1 for seat in system.seats})]
    crowd = (2,) * len(system.kinds())
    told = [stuck(system), faults(system), never_taken(system), way(system, wished), bar(system, wished),
            least_crowds(system, wished), way_of(system, wished, crowd), Layers(system, wished, held=True).layer(2)]
    for kind, place in system.seats:
        told += [caught(system, kind, place), together(system, kind, place, limit=2)]
    for content in system.lanes.contents()[::3]:
        told.append(freeing(system, 0, content))
        for index in range(len(system.server.arms(0))):
            told += [round_from(system, system.at(0, content, {}), index), starving(system, 0, index)]
    return told


class TurnsTest(unittest.TestCase):
    def check(self, model):
        server, kinds = Program(model.server), {kind: Program(model.kinds[kind]) for kind in model.kinds}
        models = [Model({name: bound for name in model.names}, model.server, model.kinds) for bound in (1, 2)]
        systems = [System(Lanes(other.bounds), server, kinds) for other in models]
        told = [everything(systems[k]) for k in (0, 1, 0, 1)]
        told.append(safe_bounds(list(reversed(model.names)), server, kinds, 2))
        self.assertEqual(told[:2], told[2:4])
        self.assertEqual(told[:2], [everything(other.made()) for other in models])
        self.assertEqual(told[4], safe_bounds(model.names, server, kinds, 2))
        self.assertEqual(systems, [other.made() for other in models])
        self.assertEqual((server, kinds), (Program(model.server), {k: Program(model.kinds[k]) for k in model.kinds}))
        return told[0] != told[1]

    def test_models_at_random(self):
        self.assertGreater(sum(self.check(make(random.Random(seed))) for seed in range(12)
                               for make in (some_model, some_lively_model)), 10)

    def test_samples(self):
        for model in (JOBS, PAIRS):
            self.assertTrue(self.check(model))


if __name__ == "__main__":
    unittest.main()
