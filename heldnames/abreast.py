"""How a search goes through two programs of one shape at once, by the events that both have.

An event tells the step at which it comes. So behind the same events both programs stand at the same spots, and only
their cells may be unlike: two programs have the same lists of events exactly if nowhere there an event can come next
in just one of them.
"""

from heldnames.moves import after_source, event_at, events_from, is_stuck, restored
from heldnames.search import Search
from heldnames.shortest import shortest_run


class Abreast:
    """Two programs of one shape, or one program twice. What a search takes for cells are pairs of their cells.

    The spots are those of the first program; those of the second one have the same numbers.
    """

    def __init__(self, flow, other):
        self.flow = flow
        self.other = other
        self.known = {}

    def unlike(self, spot, cells):
        """Return the list, in order, of the events that can come next from a spot on in just one of the two."""
        key = (spot.number, cells)
        if key not in self.known:
            self.known[key] = in_one(events_from(spot, cells[0]), events_from(self.twin(spot), cells[1]))
        return list(self.known[key])

    def twin(self, spot):
        """Return the spot of the second program that stands for one of the first."""
        return self.other.spots[spot.number]

    def goes_on(self, spot, cells):
        """Return whether both go on behind the spot, by the same events as far as can be told here."""
        # Where their next events are unlike, what is behind is of no account any more.
        return not self.unlike(spot, cells) and not is_stuck(spot, cells[0])

    def spots_ahead(self, spot, cells):
        """Return the list of the spots of the next events from a silent spot on."""
        # Without events the two may take unlike ways, so they are compared at their next events.
        return [ahead for _, ahead in events_from(spot, cells[0])]

    def cells_behind(self, spot, cells):
        """Return the cells behind the event of a hold or a set."""
        return (after_source(spot, cells[0]), after_source(self.twin(spot), cells[1]))

    def cells_restored(self, spot, ahead, left):
        """Return the cells behind a hold or a call, from those ahead of it and those with which it is left."""
        return (restored(spot, ahead[0], left[0]), restored(self.twin(spot), ahead[1], left[1]))

    def event_here(self, spot, cells):
        """Return the event that comes at a spot, or None at a silent one."""
        return event_at(spot, cells[0])


def in_one(events, others):
    """Return the list, in order, of the events that are in just one of two lists of tuples of event and spot."""
    mine = [event for event, _ in events]
    yours = [event for event, _ in others]
    return sorted([event for event in mine if event not in yours] + [event for event in yours if event not in mine])


def searched_abreast(flow, other, function, cells):
    """Return the search through two programs from a frame of a function on that begins with a pair of cells."""
    search = Search(Abreast(flow, other))
    search.begin(function, cells)
    search.work()
    return search


def unlike_states(search):
    """Return the list of the states from which on the next events are unlike."""
    return [state for state in search.states.values() if search.world.unlike(state.spot, state.cells)]


def least_unlike(search, function, cells):
    """Return a list of as few events as possible that just one of two programs has, or None if there is none."""
    goals = unlike_states(search)
    if not goals:
        return None
    events, goal = shortest_run(search, search.begun[(function, cells)], goals)
    return events + search.world.unlike(goal.spot, goal.cells)[:1]
