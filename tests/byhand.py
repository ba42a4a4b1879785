"""What the document says of systems, done once more in the plainest way, to compare the package with.

Nothing here uses the package but `Model.made`, which makes the package's System of the same lanes and programs.
"""

from itertools import product

from openlanes.lanes import Lanes
from openlanes.programs import Program
from openlanes.systems import System

WORDS = ("close", "ended", "send", "take")


def arm_result(state, bound, word):
    """The state behind an arm with a lane, or None if the arm is not open."""
    count, closed = state
    if word == "send":
        return (count + 1, closed) if not closed and count < bound else None
    if word == "take":
        return (count - 1, closed) if count > 0 else None
    if word == "ended":
        return (count, closed) if closed and count == 0 else None
    return (count, True) if not closed else None


def is_over(one, other):
    return one[0] == other[0] and one[1] == other[1] and all(a >= b for a, b in zip(one[2], other[2]))


def lowest(standings):
    """The least ones of all standings that are passed, by comparing each with each."""
    found = sorted(set(standings))
    return [x for x in found if not any(x != y and is_over(x, y) for y in found)]


class Model:
    """bounds: dict from names to bounds; server: list of places; kinds: dict from kinds to lists of places."""

    def __init__(self, bounds, server, kinds):
        self.bounds = bounds
        self.server = server
        self.kinds = kinds
        self.names = sorted(bounds)
        self.everywhere = [(kind, place) for kind in sorted(kinds) for place in range(len(kinds[kind]))]
        self.seats = [(kind, place) for kind, place in self.everywhere if place]

    def made(self):
        kinds = {kind: Program(self.kinds[kind]) for kind in self.kinds}
        return System(Lanes(self.bounds), Program(self.server), kinds)

    def contents(self):
        rows = [[(n, closed) for n in range(self.bounds[name] + 1) for closed in (False, True)] for name in self.names]
        return sorted(product(*rows))

    def moves(self, places, place, content):
        """The list of (index, to, content behind) that the place may do."""
        mode, arms = places[place]
        found = []
        for index, arm in enumerate(arms):
            if arm[0] != "else":
                spot = self.names.index(arm[1])
                state = arm_result(content[spot], self.bounds[arm[1]], arm[0])
                if state is not None:
                    found.append((index, arm[2], content[:spot] + (state,) + content[spot + 1:]))
        if not found:
            found = [(index, arm[1], content) for index, arm in enumerate(arms) if arm[0] == "else"]
        return found if mode == "any" else found[:1]

    def is_open(self, places, place, index, content):
        """Whether the arm is open, if the place may take it or not."""
        return index in [move[0] for move in self.moves([("any", arms) for _, arms in places], place, content)]

    def round_steps(self, standing, home, index):
        """The list of (step, standing behind it) that a round for the arm of the server's place home may have."""
        content = standing[1]
        return [
            (step, behind) for step, behind in self.steps(standing)
            if step[:2] != ("", home) or (step[2] != index and self.is_open(self.server, home, index, content))
        ]

    def steps(self, standing, held=False):
        """The ascending list of (step, standing behind it)."""
        place, content, counts = standing
        found = []
        if not held:
            for index, to, behind in self.moves(self.server, place, content):
                found.append((("", place, index), (to, behind, counts)))
        for kind in sorted(self.kinds):
            for start in range(len(self.kinds[kind])):
                if start and not counts[self.seats.index((kind, start))]:
                    continue
                for index, to, behind in self.moves(self.kinds[kind], start, content):
                    after = list(counts)
                    if start:
                        after[self.seats.index((kind, start))] -= 1
                    if to:
                        after[self.seats.index((kind, to))] += 1
                    found.append(((kind, start, index), (place, behind, tuple(after))))
        return found

    def box(self, most):
        """All standings with counts up to most."""
        rows = product(range(len(self.server)), self.contents(), product(range(most + 1), repeat=len(self.seats)))
        return list(rows)

    def before(self, standing, held=False):
        """The least standings one step ahead of a standing, found among all whose counts are great enough."""
        most = max([0, *standing[2]]) + 1
        return lowest([x for x in self.box(most) if any(is_over(y, standing) for _, y in self.steps(x, held))])

    def fewest(self, standing, wished, most, held=False):
        """The fewest steps, at most so many, that lead from the standing to wished ones, or None."""
        seen = {standing}
        row = [standing]
        for k in range(most + 1):
            if any(is_over(x, y) for x in row for y in wished):
                return k
            row = sorted({y for x in row for _, y in self.steps(x, held)} - seen)
            seen.update(row)
        return None

    def fixed_steps(self, state, held=False):
        """The ascending list of (step, state behind it) if nobody comes but those who are at a place 0.

        A state is (place, content, row), where row has a count for each place of each kind, place 0 included.
        """
        place, content, row = state
        found = []
        if not held:
            for index, to, behind in self.moves(self.server, place, content):
                found.append((("", place, index), (to, behind, row)))
        for (kind, start), count in zip(self.everywhere, row):
            for index, to, behind in self.moves(self.kinds[kind], start, content) if count else []:
                after = list(row)
                after[self.everywhere.index((kind, start))] -= 1
                after[self.everywhere.index((kind, to))] += 1
                found.append(((kind, start, index), (place, behind, tuple(after))))
        return found

    def row_of(self, crowd, counts=None):
        """The row with the clients of the crowd at the places 0, and so many clients at seats."""
        many = dict(zip(sorted(self.kinds), crowd))
        at = dict(zip(self.seats, counts or ()))
        return tuple(at.get((kind, place), 0) if place else many[kind] for kind, place in self.everywhere)

    def fixed_states(self, crowd, start=None, held=False):
        """The dict from the states that come with just these clients to the fewest steps that lead there.

        start is the standing to begin with; its clients at seats are there beside the crowd.
        """
        place, content, counts = start or (0, self.contents()[0], None)
        first = (place, content, self.row_of(crowd, counts))
        found = {first: 0}
        row = [first]
        while row:
            further = []
            for state in row:
                for _, behind in self.fixed_steps(state, held):
                    if behind not in found:
                        found[behind] = found[state] + 1
                        further.append(behind)
            row = further
        return found

    def standing_of(self, state):
        """The standing of a state: who is at a place 0 is left out."""
        return (*state[:2], tuple(n for (_, place), n in zip(self.everywhere, state[2]) if place))

    def fixed_fewest(self, wished, states):
        """The fewest steps to wished standings among the states that fixed_states told, or None."""
        told = [states[x] for x in states if any(is_over(self.standing_of(x), y) for y in wished)]
        return min(told, default=None)

    def shifted(self):
        """A Model in which each kind has a place 0 without arms ahead of its places, so that all are counted."""
        def behind(arm):
            return (*arm[:-1], arm[-1] + 1)
        kinds = {kind: [("any", ())] + [(mode, tuple(behind(arm) for arm in arms)) for mode, arms in self.kinds[kind]]
                 for kind in self.kinds}
        return Model(self.bounds, self.server, kinds)

    def turned(self):
        """The same Model, the keys of its dicts in the contrary order."""
        return Model({name: self.bounds[name] for name in reversed(list(self.bounds))}, self.server,
                     {kind: self.kinds[kind] for kind in reversed(list(self.kinds))})

    def renamed(self, new):
        """The Model with other names of lanes and kinds; new is the dict from all old ones to new ones."""
        def places(old):
            return [(mode, tuple(arm if arm[0] == "else" else (arm[0], new[arm[1]], arm[2]) for arm in arms))
                    for mode, arms in old]
        return Model({new[name]: self.bounds[name] for name in self.bounds}, places(self.server),
                     {new[kind]: places(self.kinds[kind]) for kind in self.kinds})

    def layers(self, wished, most, held=False):
        """The layers within a box of counts up to most, until nothing more comes: a list of sets of standings.

        They are right as long as no least standing of a layer has a count of most: then clients beyond it are as many
        as most of them.
        """
        box = self.box(most)
        behind = {x: [(y[0], y[1], tuple(min(n, most) for n in y[2])) for _, y in self.steps(x, held)] for x in box}
        layer = {x for x in box if any(is_over(x, y) for y in wished)}
        found = [layer]
        while True:
            more = layer | {x for x in box if any(y in layer for y in behind[x])}
            if more == layer:
                return found
            found.append(more)
            layer = more

    def is_round(self, standing, index, steps):
        """Whether a list of tuples is a round from the standing for the arm of the server's place."""
        now, home = standing, standing[0]
        if not self.is_open(self.server, home, index, standing[1]):
            return False
        for step in steps:
            behind = [y for x, y in self.round_steps(now, home, index) if x == step]
            if not behind:
                return False
            now = behind[0]
        return is_over(now, standing) and any(step[0] == "" for step in steps)

    def fewest_round(self, standing, index, most):
        """The fewest steps, at most so many, of a round from the standing, or None."""
        if not self.is_open(self.server, standing[0], index, standing[1]):
            return None
        seen = {(standing, False)}
        row = [(standing, False)]
        for k in range(most + 1):
            if any(moved and is_over(x, standing) for x, moved in row):
                return k
            further = set()
            for x, moved in row:
                for step, y in self.round_steps(x, standing[0], index):
                    further.add((y, moved or step[0] == ""))
            row = sorted(further - seen)
            seen.update(row)
        return None

    def round_layers(self, standing, index, most):
        """As layers: the sets of the tuples (standing, moved) from which at most k steps go on as a round does."""
        box = self.box(most)
        behind = {(x, moved): [
            ((y[0], y[1], tuple(min(n, most) for n in y[2])), moved or step[0] == "")
            for step, y in self.round_steps(x, standing[0], index)
        ] for x in box for moved in (False, True)}
        layer = {(x, True) for x in box if is_over(x, standing)}
        found = [layer]
        while True:
            more = layer | {x for x in behind if any(y in layer for y in behind[x])}
            if more == layer:
                return found
            found.append(more)
            layer = more

    def is_bar(self, wished, standing, bars, held=False):
        """Whether the list of standings bars the standing from wished ones."""
        if any(is_over(standing, y) for y in bars):
            return False
        if not all(any(is_over(x, y) for y in bars) for x in wished):
            return False
        most = max([0] + [n for y in bars for n in y[2]]) + 1
        for x in self.box(most):
            if not any(is_over(x, y) for y in bars):
                if any(is_over(z, y) for _, z in self.steps(x, held) for y in bars):
                    return False
        return True


def some_places(chance, names, size, arms, words=WORDS + ("send", "take")):
    """Places of a program, taken by a chance (random.Random)."""
    found = []
    for _ in range(size):
        row = []
        for _ in range(chance.randint(0, arms)):
            row.append((chance.choice(words), chance.choice(names), chance.randrange(size)))
        if chance.random() < 0.4:
            row.insert(chance.randint(0, len(row)), ("else", chance.randrange(size)))
        found.append((chance.choice(["first", "any"]), tuple(row)))
    return found


def some_model(chance):
    """A small Model with at most two seats."""
    bounds = chance.choice([{"a": 1}, {"a": 2}, {"b": 1, "a": 1}, {"a": 1, "b": 2}])
    names = sorted(bounds)
    sizes = chance.choice([[], [1], [2], [2], [3], [3], [2, 2], [1, 2]])
    kinds = {"kl"[k]: some_places(chance, names, size, 3) for k, size in enumerate(sizes)}
    return Model(bounds, some_places(chance, names, chance.randint(1, 3), 3), kinds)


def some_lively_model(chance):
    """A small Model with at most one seat whose programs close nothing and mostly have several arms."""
    bounds = chance.choice([{"a": 1}, {"a": 2}, {"b": 1, "a": 1}])
    names, words = sorted(bounds), ("send", "take", "take", "send", "ended")
    size = chance.randint(1, 3)
    server = [(mode, arms or (("take", names[0], 0), ("send", names[-1], size - 1)))
              for mode, arms in some_places(chance, names, size, 4, words)]
    kinds = {} if chance.random() < 0.2 else {"k": some_places(chance, names, chance.randint(1, 2), 4, words)}
    return Model(bounds, server, kinds)


def some_wished(chance, model):
    """Up to three standings of the model."""
    return [some_standing(chance, model, chance.choice([1, 2])) for _ in range(chance.randint(1, 3))]


def some_standing(chance, model, most):
    """A standing of the model with counts up to most."""
    counts = tuple(chance.choice([0, 0, chance.randint(0, most)]) for _ in model.seats)
    return (chance.randrange(len(model.server)), chance.choice(model.contents()), counts)
