"""Openlanes: programs that choose among open lanes, for any number of clients."""
