"""Which spots are come to with which cells, and in which ways holds and frames are left.

What happens behind a spot until its hold or its frame is left depends on the cells alone, so each pair of spot and
cells is one state, however deep the stack is. A state at a hold or a call goes on by the ways out of what it brings,
as far as there are any: so recursion without end leads to no more states.
"""

from heldnames.alone import Alone
from heldnames.moves import is_silent


class State:
    """A spot with the cells there."""

    def __init__(self, spot, cells):
        self.spot = spot
        self.cells = cells
        # At a hold or a call: the state with which what it brings begins.
        self.inner = None
        # The states whose `inner` this one is.
        self.users = []
        # Pairs of a state where it goes on or comes from, and the way out of `inner` by which it does, or None.
        self.after = []
        self.before = []
        # Pairs of a way out that is taken at this very state, and the way out of `inner` by which it is, or None.
        self.outs = []
        # All ways out from here on, each with whether the states ahead of this one know of it.
        self.ways = {}
        # For each way out the fewest events, and the pair of `after` to go on with, or None to leave by.
        self.least = {}
        self.choice = {}


class Search:
    """All states that are come to from some beginnings on, in a world: one program, or two of them abreast.

    With a dict of ways for pairs of function and cells, calls go on as that dict tells, and aren't followed.
    """

    def __init__(self, world, told=None):
        self.world = world
        self.told = told
        self.states = {}
        # The states with which frames begin, and the calls that are come to, by function and cells.
        self.begun = {}
        self.called = {}
        self.fresh = []
        self.found = []

    def begin(self, function, cells):
        """Return the state with which a frame of a function begins."""
        state = self.state_of(self.world.flow.begins[function], cells)
        self.begun[(function, cells)] = state
        return state

    def work(self):
        """Find all states and ways."""
        while self.fresh or self.found:
            if self.found:
                state, way = self.found.pop()
                self.hand_on(state, way)
            else:
                self.go_on(self.fresh.pop())

    def state_of(self, spot, cells):
        """Return the state of a spot with cells, a new one if there is none."""
        key = (spot.number, cells)
        if key not in self.states:
            self.states[key] = State(spot, cells)
            self.fresh.append(self.states[key])
        return self.states[key]

    def go_on(self, state):
        """Find what comes next at a state."""
        spot = state.spot
        if not self.world.goes_on(spot, state.cells):
            return
        if is_silent(spot):
            for ahead in self.world.spots_ahead(spot, state.cells):
                self.link(state, ahead, state.cells, None)
        elif spot.word == "say":
            self.link(state, spot.behind, state.cells, None)
        elif spot.word == "set":
            self.link(state, spot.behind, self.world.cells_behind(spot, state.cells), None)
        elif spot.word == "raise":
            self.fall(state, state.cells, None)
        elif spot.word == "hold":
            self.enter(state, self.state_of(spot.firsts[0], self.world.cells_behind(spot, state.cells)))
        elif spot.word == "call":
            self.call(state)
        else:
            self.leave(state, ("end", state.cells), None)

    def link(self, state, spot, cells, through):
        """Note that a state goes on at a spot with cells."""
        target = self.state_of(spot, cells)
        state.after.append((target, through))
        target.before.append((state, through))
        for way in list(target.ways):
            self.note(state, way)

    def leave(self, state, way, through):
        """Note a way out that is taken at a state."""
        state.outs.append((way, through))
        self.note(state, way)

    def fall(self, state, cells, through):
        """Note what a raise at a state, or one that comes through it, leads to."""
        outer = state.spot.outer
        if outer is not None and outer.word == "guard":
            self.link(state, outer.behind, cells, through)
        else:
            self.leave(state, ("raise", cells), through)

    def call(self, state):
        """Find what a call leads to."""
        key = (state.spot.function, state.cells)
        self.called[key] = True
        if self.told is None:
            self.enter(state, self.begin(state.spot.function, state.cells))
        else:
            for way in self.told.get(key, []):
                self.come_back(state, way)

    def enter(self, state, inner):
        """Note that a hold or a call brings what begins with an inner state."""
        state.inner = inner
        inner.users.append(state)
        for way in list(inner.ways):
            # The others are still to be handed on, and will be to this state too.
            if inner.ways[way]:
                self.come_back(state, way)

    def come_back(self, state, way):
        """Note where a hold or a call goes on once what it has brought is left in a way."""
        word, left = way
        cells = self.world.cells_restored(state.spot, state.cells, left)
        if word == "end":
            self.link(state, state.spot.behind, cells, way)
        else:
            self.fall(state, cells, way)

    def note(self, state, way):
        """Note a way out from a state on."""
        if way not in state.ways:
            state.ways[way] = False
            self.found.append((state, way))

    def hand_on(self, state, way):
        """Tell the states ahead of a state of a way out from it on."""
        state.ways[way] = True
        for ahead, _ in list(state.before):
            self.note(ahead, way)
        for user in list(state.users):
            self.come_back(user, way)


def searched(flow, function, cells):
    """Return the search from a frame of a function that begins with cells on."""
    search = Search(Alone(flow))
    search.begin(function, cells)
    search.work()
    return search


def searched_runs(flow):
    """Return the search from the beginning of all runs on."""
    return searched(flow, flow.main, flow.bare())
