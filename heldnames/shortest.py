"""Runs with as few events as possible, to a state that a search has found."""

from heapq import heappop, heappush

from heldnames.moves import is_silent


def weight_of(state):
    """Return how many events come at a state itself."""
    if is_silent(state.spot):
        return 0
    return 1


class Measure:
    """Finds the fewest events for all ways out of states.

    What is put together has at least as many events as each of its parts, so the least one that is still open is
    settled, and numbers may grow without end where ways out are long.
    """

    def __init__(self, states):
        self.queue = []
        self.offered = 0
        for state in states:
            for way, through in state.outs:
                if through is None:
                    self.offer(weight_of(state), state, way, (None, None))

    def work(self):
        """Settle all ways out of all states."""
        while self.queue:
            cost, _, state, way, choice = heappop(self.queue)
            if way not in state.least:
                state.least[way] = cost
                state.choice[way] = choice
                self.offer_ahead(state, way, cost)
                self.offer_users(state, way, cost)

    def offer(self, cost, state, way, choice):
        """Note that a way out of a state can be had with a number of events."""
        if way not in state.least:
            # The count keeps states from being compared.
            heappush(self.queue, (cost, self.offered, state, way, choice))
            self.offered += 1

    def offer_ahead(self, state, way, cost):
        """Offer the way to the states ahead of a state from which it goes on there."""
        for ahead, through in state.before:
            if through is None:
                self.offer(weight_of(ahead) + cost, ahead, way, (state, None))
            elif through in ahead.inner.least:
                self.offer(weight_of(ahead) + ahead.inner.least[through] + cost, ahead, way, (state, through))

    def offer_users(self, state, way, cost):
        """Offer what the holds and calls that bring a state can do behind this way out of it."""
        for user in state.users:
            spent = weight_of(user) + cost
            for target, through in user.after:
                if through == way:
                    for later in target.least:
                        self.offer(spent + target.least[later], user, later, (target, way))
            for out, through in user.outs:
                if through == way:
                    self.offer(spent, user, out, (None, way))


def route_to(start, goals):
    """Return the list of pairs of a state and the way through its inner one, from a start to ahead of a goal, and it.

    The goal is one of those, all of them come to, with as few events as possible ahead of it.
    """
    wanted = {goal: True for goal in goals}
    queue = [(0, 0, start, None, None)]
    offered = 1
    came = {}
    goal = None
    while goal is None:
        cost, _, state, origin, through = heappop(queue)
        if state in came:
            continue
        came[state] = (origin, through)
        if state in wanted:
            goal = state
        for target, way, extra in steps_from(state):
            heappush(queue, (cost + extra, offered, target, state, way))
            offered += 1
    route = []
    origin, through = came[goal]
    while origin is not None:
        route.append((origin, through))
        origin, through = came[origin]
    route.reverse()
    return route, goal


def steps_from(state):
    """Return the tuples of state, way through the inner one and number of events for all that can come next."""
    found = []
    weight = weight_of(state)
    if state.inner is not None:
        found.append((state.inner, None, weight))
    for target, through in state.after:
        if through is None:
            found.append((target, None, weight))
        else:
            found.append((target, through, weight + state.inner.least[through]))
    return found


def events_out(world, start, out):
    """Return the list of the fewest events from a state until it is left in a way."""
    events = []
    # Where to go on, and how to leave there, for each hold and call that isn't left yet.
    later = [(start, out)]
    while later:
        state, way = later.pop()
        while state is not None:
            target, through = state.choice[way]
            if not is_silent(state.spot):
                events.append(world.event_here(state.spot, state.cells))
            if through is not None:
                later.append((target, way))
                target = state.inner
                way = through
            state = target
    return events


def shortest_run(search, start, goals):
    """Return a run with as few events as possible from one state of a search to one of others, and that other one."""
    measure = Measure(list(search.states.values()))
    measure.work()
    events = []
    route, goal = route_to(start, goals)
    for state, through in route:
        if not is_silent(state.spot):
            events.append(search.world.event_here(state.spot, state.cells))
        if through is not None:
            events.extend(events_out(search.world, state.inner, through))
    return events, goal
