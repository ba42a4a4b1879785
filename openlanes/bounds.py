"""Bounds of lanes with which a server sticks nowhere."""

from openlanes.lanes import Lanes
from openlanes.stuck import stuck
from openlanes.systems import System


def all_bounds(many, greatest):
    """The ascending list of the tuples of so many integers from 1 to the greatest."""
    found = [()]
    for _ in range(many):
        found = [row + (bound,) for row in found for bound in range(1, greatest + 1)]
    return found


def safe_bounds(names, server, kinds, greatest, *, most=2000):
    """The ascending list of the tuples of bounds, in the order of the names, with which the server sticks nowhere."""
    found = []
    for row in all_bounds(len(names), greatest):
        lanes = Lanes({name: bound for name, bound in zip(sorted(names), row)})
        if not stuck(System(lanes, server, kinds), most=most):
            found.append(row)
    return found
