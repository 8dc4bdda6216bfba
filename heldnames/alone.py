"""How a search goes through one program."""

from heldnames.moves import after_source, event_at, is_stuck, restored, silent_ahead


class Alone:
    """One program. What a search takes for cells are the cells of this program."""

    def __init__(self, flow):
        self.flow = flow

    def goes_on(self, spot, cells):
        """Return whether anything comes behind the spot."""
        return not is_stuck(spot, cells)

    def spots_ahead(self, spot, cells):
        """Return the list of the spots to go on with from a silent spot."""
        return silent_ahead(spot, cells)

    def cells_behind(self, spot, cells):
        """Return the cells behind the event of a hold or a set."""
        return after_source(spot, cells)

    def cells_restored(self, spot, ahead, left):
        """Return the cells behind a hold or a call, from those ahead of it and those with which it is left."""
        return restored(spot, ahead, left)

    def event_here(self, spot, cells):
        """Return the event that comes at a spot, or None at a silent one."""
        return event_at(spot, cells)
