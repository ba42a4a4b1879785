"""One client who tells two servers apart."""

from openlanes.rows import client_of
from openlanes.tables import parting


def teller(lanes, one, other, *, most=300):
    """A tuple (client, place, which) that tells the servers apart, or None if they are alike."""
    which = 0
    row = parting(lanes, one, other, most=most)
    if row is None:
        which = 1
        row = parting(lanes, other, one, most=most)
    if row is None:
        return None
    return (client_of(row), len(row), which)
