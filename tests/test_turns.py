"""[3] and [11]: the very same Programs over several Lanes, asked by turns, tell what new ones tell; so do other names."""

import random
import re
import unittest

from openlanes.book import Book
from openlanes.bounds import safe_bounds
from openlanes.caught import caught
from openlanes.comings import comings
from openlanes.crowds import least_crowds, way_of
from openlanes.desk import Desk
from openlanes.faults import faults
from openlanes.following import following, standings_behind
from openlanes.lanes import Lanes
from openlanes.layers import Layers
from openlanes.notation import show_deed, show_lanes, show_program, show_row
from openlanes.programs import Program
from openlanes.rounds import round_from, starving
from openlanes.rows import client_of, row_of
from openlanes.stuck import freeing, stuck
from openlanes.systems import System
from openlanes.tables import parting, table
from openlanes.taken import never_taken
from openlanes.telling import teller
from openlanes.together import together
from openlanes.unseen import arm_matters, lean, mode_matters, order_matters
from openlanes.ways import bar, way
from tests.byhand import Model, some_lively_model, some_model
from tests.helpers import NEW
from tests.samples import JOBS, PAIRS


def about_servers(system):
    """What the functions of the last stages tell of a system's server, and of the server with a change."""
    lanes, server = system.lanes, system.server
    changes = [(place, index) for place in range(server.size) for index in range(len(server.arms(place)))]
    told = [mode_matters(lanes, server, place, most=10000) for place in range(server.size)]
    told += [arm_matters(lanes, server, *change, most=10000) for change in changes]
    told += [order_matters(lanes, server, place, index - 1, most=10000) for place, index in changes if index]
    told.append(lean(lanes, server, most=10000))
    for other in [server.without(*change) for change in changes[:3]]:
        for pair in ((server, other), (other, server)):
            told += [parting(lanes, *pair, most=10000), table(lanes, *pair, most=10000), teller(lanes, *pair, most=10000)]
    return told


def talk(system):
    """What a Book and a Desk tell of the first steps that can be made, one after another."""
    book, desk = Book(system), Desk(system)
    told = [desk("steps"), desk("stuck"), desk("sticks"), *[desk(f"seat {kind} {place}") for kind, place in system.seats]]
    for k in range(9):
        steps = book.steps()
        if not steps:
            break
        deed = ("step", *steps[k % len(steps)])
        told += [book.do(deed), desk(show_deed(deed)), desk("steps"), book.sticks()]
    told += [book.log(), desk("back"), desk("where")]
    row = row_of(system, [deed[1:] for deed in book.log()])
    told += [row, client_of(row), show_row(row), following(system.lanes, system.server, row)]
    told += [standings_behind(system.lanes, system.server, row), show_lanes(system.lanes), show_program(system.server)]
    return told


def everything(system):
    """What all functions tell of a system."""
    wished = [system.at(system.server.size - 1, system.lanes.first, {seat: 1 for seat in system.seats})]
    crowd = (2,) * len(system.kinds())
    told = [stuck(system), faults(system), never_taken(system), way(system, wished), bar(system, wished),
            least_crowds(system, wished), way_of(system, wished, crowd), Layers(system, wished, held=True).layer(2)]
    told += [about_servers(system), talk(system), comings(system, crowd, most=10000)]
    for kind, place in system.seats:
        told += [caught(system, kind, place), together(system, kind, place, limit=2)]
    for content in system.lanes.contents()[::3]:
        told.append(freeing(system, 0, content))
        for index in range(len(system.server.arms(0))):
            told += [round_from(system, system.at(0, content, {}), index), starving(system, 0, index)]
    return told


def renamed(thing):
    """The result with the other names of lanes and kinds, in texts too."""
    if isinstance(thing, (list, tuple)):
        return thing.__class__(renamed(part) for part in thing)
    if isinstance(thing, Program):
        return Program(renamed(thing.places()))
    if isinstance(thing, str):
        return re.sub("[a-z]+", lambda word: NEW.get(word[0], word[0]), thing)
    return thing


class NamesTest(unittest.TestCase):
    def test_other_names_in_the_same_order(self):
        for seed in range(12):
            for make in (some_model, some_lively_model):
                model = make(random.Random(seed))
                told = everything(model.made())
                self.assertEqual(everything(model.renamed(NEW).made()), renamed(told))
                self.assertEqual(everything(model.turned().made()), told)


class TurnsTest(unittest.TestCase):
    def check(self, model):
        server, kinds = Program(model.server), {kind: Program(model.kinds[kind]) for kind in model.kinds}
        models = [Model({name: bound for name in model.names}, model.server, model.kinds) for bound in (1, 2)]
        systems = [System(Lanes(other.bounds), server, kinds) for other in models]
        told = [everything(systems[k]) for k in (0, 1, 0, 1)]
        told.append(safe_bounds(list(reversed(model.names)), server, kinds, 2))
        self.assertEqual(told[:2], told[2:4])
        self.assertEqual(told[:2], [everything(other.made()) for other in models])
        self.assertEqual(told[4], safe_bounds(model.names, server, kinds, 2))
        self.assertEqual(systems, [other.made() for other in models])
        self.assertEqual((server, kinds), (Program(model.server), {k: Program(model.kinds[k]) for k in model.kinds}))
        return told[0] != told[1]

    def test_models_at_random(self):
        self.assertGreater(sum(self.check(make(random.Random(seed))) for seed in range(12)
                               for make in (some_model, some_lively_model)), 10)

    def test_samples(self):
        for model in (JOBS, PAIRS):
            self.assertTrue(self.check(model))


if __name__ == "__main__":
    unittest.main()
