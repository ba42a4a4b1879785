"""Whether wished standings can come, with a run or with a list that bars them."""

from openlanes.layers import Layers


def can_come(system, wished, *, most=2000):
    """Whether a run from the first standing leads to wished ones."""
    return system.first in Layers(system, wished, most=most)


def way(system, wished, *, most=2000):
    """A shortest run from the first standing that leads to wished ones, or None."""
    return Layers(system, wished, most=most).way(system.first)


def bar(system, wished, *, most=2000):
    """The ascending list of the least standings of the last layer if the wished ones can't come, otherwise None."""
    layers = Layers(system, wished, most=most)
    if system.first in layers:
        return None
    return layers.layer(layers.last)
