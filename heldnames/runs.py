"""Runs of programs, event by event."""

from heldnames.errors import InvalidRun
from heldnames.flow import Flow
from heldnames.moves import events_from, worth_at
from heldnames.programs import check_program
from heldnames.same import is_same


class Walk:
    """Where a program stands behind a run."""

    def __init__(self, flow):
        self.flow = flow
        self.spot = flow.begins[flow.main]
        # For each frame its function, the spot of the call that brought it, and the number of older holders.
        self.frames = [(flow.main, None, 0)]
        # For each holder the number of its name, and its worth.
        self.holders = []
        self.over = False

    def held(self):
        """Return the worths with which the names are held."""
        cells = list(self.flow.bare())
        for name, worth in self.holders:
            cells[name] = worth
        return tuple(cells)

    def set_worth(self, name, worth):
        """Give the newest holder of a name another worth."""
        numbers = [number for number, holder in enumerate(self.holders) if holder[0] == name]
        self.holders[numbers[-1]] = (name, worth)


def events_ahead(walk):
    """Return the tuples of event and spot for all events that can come next."""
    if walk.over:
        return []
    return events_from(walk.spot, walk.held())


def take(walk, word, spot):
    """Lead a walk over the event with a word that comes at a spot."""
    if word == "bare":
        walk.over = True
    elif word == "end":
        take_end(walk)
    elif word == "raise":
        take_raise(walk, spot)
    elif word == "call":
        walk.frames.append((spot.function, spot, len(walk.holders)))
        walk.spot = walk.flow.begins[spot.function]
    elif word == "hold":
        if spot.name is not None:
            walk.holders.append((spot.name, worth_at(spot, walk.held())))
        walk.spot = spot.firsts[0]
    else:
        if word == "set" and spot.name is not None:
            walk.set_worth(spot.name, worth_at(spot, walk.held()))
        if word == "drop" and spot.name is not None:
            walk.holders.pop()
        walk.spot = spot.behind


def take_end(walk):
    """Lead a walk over the end of its newest frame."""
    _, call, _ = walk.frames.pop()
    if call is None:
        walk.over = True
    else:
        walk.spot = call.behind


def take_raise(walk, spot):
    """Lead a walk over a raise at a spot, to behind the newest open guard."""
    inner = spot
    while walk.frames:
        _, call, many = walk.frames[-1]
        guard = guard_around(inner)
        if guard is not None:
            del walk.holders[many + holders_around(guard):]
            walk.spot = guard.behind
            return
        del walk.holders[many:]
        walk.frames.pop()
        inner = call
    walk.over = True


def guard_around(spot):
    """Return the innermost guard around a spot in its function, or None if there is none."""
    outer = spot.outer
    while outer is not None and outer.word != "guard":
        outer = outer.outer
    return outer


def holders_around(spot):
    """Return how many holders the holds around a spot in its function have brought."""
    # What is around a spot are holds and guards, and guards have no names.
    many = 0
    outer = spot.outer
    while outer is not None:
        if outer.name is not None:
            many += 1
        outer = outer.outer
    return many


def walked(program, value):
    """Return the walk behind a run, or None if the value is no run."""
    if not isinstance(value, list):
        return None
    walk = Walk(Flow(program))
    for item in value:
        fitting = [(event, spot) for event, spot in events_ahead(walk) if is_same(item, event)]
        if not fitting:
            return None
        event, spot = fitting[0]
        take(walk, event[0], spot)
    return walk


def checked_walk(program, run):
    """Return the walk behind a run, with the errors for both arguments."""
    check_program(program)
    walk = walked(program, run)
    if walk is None:
        raise InvalidRun(run)
    return walk


def is_run(program, value):
    """Return whether a value is a run."""
    check_program(program)
    return walked(program, value) is not None


def next_events(program, run):
    """Return the list, in order, of all events that can come behind a run."""
    walk = checked_walk(program, run)
    return sorted([event for event, _ in events_ahead(walk)])


def stack_of(program, run):
    """Return the list of the functions of the frames behind a run, from the oldest to the newest."""
    walk = checked_walk(program, run)
    return [function for function, _, _ in walk.frames]


def holders_of(program, run):
    """Return the list of the names and worths of the holders behind a run, from the oldest to the newest."""
    walk = checked_walk(program, run)
    return [(walk.flow.order[name], worth) for name, worth in walk.holders]


def cells_of(program, run):
    """Return the list of the worths with which the names are held behind a run."""
    walk = checked_walk(program, run)
    return list(walk.held())
