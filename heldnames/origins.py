"""By which holds and sets the newest holders of a name came to be as they are, where runs come to.

Sets of spots are numbers here, with a bit for each spot. What a state makes of such a set does not depend on how it is
come to, so sets are handed along the states of a search, and back from the ways out of what holds and calls bring.
"""

# The bit that stands for all that is there ahead.
AS_AHEAD = 1


def mark_of(spot):
    """Return the set of a single spot."""
    return 2 << spot.number


def chained(first, later):
    """Return what comes of a set by one change behind another one."""
    if later & AS_AHEAD:
        return first | (later - AS_AHEAD)
    return later


class Origins:
    """For each state of a search the spots whose mark the newest holder of a name bears there.

    A hold of the name gives its mark to the holder that it brings. A set of the name replaces it by its own one if
    sets are to do so.
    """

    def __init__(self, states, name, by_sets):
        self.name = name
        self.by_sets = by_sets
        self.marks = {state: 0 for state in states}
        # For each pair of a state and a way out of it what becomes of the mark until then.
        self.changes = {}
        self.todo = []
        self.find_changes()
        self.find_marks()

    def change(self, state, through):
        """Return what becomes of the mark from a state to where it goes on, through a way out of its inner one."""
        if not self.by_sets:
            return AS_AHEAD
        if through is None:
            if state.spot.word == "set" and state.spot.name == self.name:
                return mark_of(state.spot)
            return AS_AHEAD
        # Sets within a hold of the name reach the holder that it brings, not the one ahead of it.
        if state.spot.word == "hold" and state.spot.name == self.name:
            return AS_AHEAD
        return self.changes.get((state.inner, through), 0)

    def find_changes(self):
        """Find what becomes of the mark from each state to each way out of it."""
        if not self.by_sets:
            return
        for state in self.marks:
            for way, through in state.outs:
                if through is None:
                    self.note(state, way, AS_AHEAD)
        while self.todo:
            state, way = self.todo.pop()
            for ahead, through in state.before:
                self.note(ahead, way, chained(self.change(ahead, through), self.changes[(state, way)]))
            for user in state.users:
                self.come_back(user, way)

    def come_back(self, user, way):
        """Note what a hold or a call makes of the mark, once what it brings is left in a way."""
        change = self.change(user, way)
        for target, through in user.after:
            if through == way:
                for later in target.ways:
                    self.note(user, later, chained(change, self.changes.get((target, later), 0)))
        for out, through in user.outs:
            if through == way:
                self.note(user, out, change)

    def note(self, state, way, change):
        """Note what can become of the mark from a state to a way out of it."""
        known = self.changes.get((state, way), 0)
        if known | change != known:
            self.changes[(state, way)] = known | change
            self.todo.append((state, way))

    def find_marks(self):
        """Find the marks at all states."""
        todo = list(self.marks)
        while todo:
            state = todo.pop()
            given = self.marks[state]
            ahead = [(target, chained(given, self.change(state, through))) for target, through in state.after]
            if state.inner is not None:
                ahead.append((state.inner, self.mark_within(state)))
            for target, marks in ahead:
                known = self.marks[target]
                if known | marks != known:
                    self.marks[target] = known | marks
                    todo.append(target)

    def mark_within(self, state):
        """Return the marks with which what a hold or a call brings begins."""
        if state.spot.word == "hold" and state.spot.name == self.name:
            return mark_of(state.spot)
        return self.marks[state]
