"""A slow, plain way to run programs, made of whole stacks. It shares nothing with the package but the programs."""

STOPPED = ("stopped",)


class Plain:
    """The successors of configurations of a program.

    A configuration is a tuple of a control stack and of all holders. What the control stack holds, from the oldest to
    the newest, is ("steps", function, path of the body, number of the next step), ("drop", place, named),
    ("end", function), ("guard", number of holders) and ("stopped",). A holder is a tuple of its name, its worth, the
    place of the hold that brought it, and that of the hold or the set that gave it its worth last (both only where
    holders are traced, otherwise None).
    """

    def __init__(self, program, told=None, traced=False):
        self.names = program.names()
        self.functions = [function for function, _ in program.functions()]
        self.bodies = {}
        self.told = told
        self.traced = traced
        for function, body in program.functions():
            self.keep(function, (), body)

    def keep(self, function, path, body):
        self.bodies[(function, path)] = body
        for number, step in enumerate(body):
            here = path + (number,)
            if step[0] in ("either", "when"):
                self.keep(function, here + (0,), step[-2])
                self.keep(function, here + (1,), step[-1])
            elif step[0] in ("hold", "loop", "guard"):
                self.keep(function, here, step[-1])

    def start(self):
        return self.frame(self.functions[0], [""] * len(self.names))

    def frame(self, function, cells):
        holders = tuple((name, worth, None, None) for name, worth in zip(self.names, cells) if worth != "")
        return ((("end", function), ("steps", function, (), 0)), holders)

    def cells(self, holders):
        held = held_by(holders)
        return [held.get(name, "") for name in self.names]

    def stack(self, config):
        return [item[1] for item in config[0] if item[0] == "end"]

    def unfold(self, config, base=0):
        """Return the places come to, the pairs of event and next configuration, and the ways out.

        `base` is the number of holders that were there ahead of the oldest frame. A call that is told about has its
        next configurations with ("told", function, cells) for the event.
        """
        places, events, ways = [], [], []
        todo, seen = [config], set()
        while todo:
            now = todo.pop()
            if now in seen:
                continue
            seen.add(now)
            control, holders = now
            if not control or control[-1] == STOPPED:
                continue
            item, rest = control[-1], control[:-1]
            if item[0] == "guard":
                todo.append((rest, holders))
            elif item[0] == "drop":
                events.append((("drop", item[1]), (rest, holders[:-1] if item[2] else holders)))
            elif item[0] == "end":
                events.append((("end", item[1]), (rest, holders)))
                if not rest:
                    ways.append(("end", self.cells(holders)))
            else:
                self.steps(item, rest, holders, base, (places, events, ways, todo))
        return places, events, ways

    def steps(self, item, rest, holders, base, out):
        places, events, ways, todo = out
        _, function, path, number = item
        body = self.bodies[(function, path)]
        if number == len(body):
            todo.append((rest, holders))
            return
        step = body[number]
        here = path + (number,)
        place = (function, here)
        places.append(place)
        behind = rest + (("steps", function, path, number + 1),)
        held = held_by(holders)
        word = step[0]
        mark = place if self.traced else None
        if [name for name in self.asked(step) if name not in held]:
            events.append((("bare", place), (rest + (STOPPED,), holders)))
        elif word == "say":
            events.append((("say", place, held[step[1]]), (behind, holders)))
        elif word == "set":
            worth = held[step[2]] if step[2] in self.names else step[2]
            events.append((("set", place), (behind, renewed(holders, step[1], worth, mark))))
        elif word == "hold":
            worth = held[step[2]] if step[2] in self.names else step[2]
            inner = behind + (("drop", place, step[1] is not None), ("steps", function, here, 0))
            more = () if step[1] is None else ((step[1], worth, mark, mark),)
            events.append((("hold", place), (inner, holders + more)))
        elif word == "call":
            self.call(place, step, behind, holders, base, events, ways)
        elif word == "either":
            todo.append((behind + (("steps", function, here + (0,), 0),), holders))
            todo.append((behind + (("steps", function, here + (1,), 0),), holders))
        elif word == "loop":
            todo.append((behind, holders))
            todo.append((rest + (item, ("steps", function, here, 0)), holders))
        elif word == "when":
            branch = 0 if held[step[1]] == step[2] else 1
            todo.append((behind + (("steps", function, here + (branch,), 0),), holders))
        elif word == "guard":
            todo.append((behind + (("guard", len(holders)), ("steps", function, here, 0)), holders))
        else:
            config, way = self.fallen(behind, holders, base)
            events.append((("raise", place), config))
            ways.extend(way)

    def read(self, step):
        """Return the names whose worths a step asks."""
        if step[0] in ("say", "when"):
            return [step[1]]
        if step[0] in ("hold", "set") and step[2] in self.names:
            return [step[2]]
        return []

    def asked(self, step):
        """Return the names that a step asks."""
        if step[0] == "set" and step[1] is not None:
            return self.read(step) + [step[1]]
        return self.read(step)

    def call(self, place, step, behind, holders, base, events, ways):
        if self.told is None:
            inner = behind + (("end", step[1]), ("steps", step[1], (), 0))
            events.append((("call", place), (inner, holders)))
            return
        cells = tuple(self.cells(holders))
        called = ("told", step[1], cells)
        # Also a call that never comes back is to be seen.
        events.append((called, ((), ())))
        for word, after in self.told.get((step[1], cells), []):
            changed = holders
            for name, worth in zip(self.names, after):
                if worth != "":
                    changed = renewed(changed, name, worth, None)
            if word == "end":
                events.append((called, (behind, changed)))
            else:
                config, way = self.fallen(behind, changed, base)
                events.append((called, config))
                ways.extend(way)

    def fallen(self, control, holders, base):
        """Return the configuration behind a raise, and the list of the way out that it is, if it is one."""
        while control:
            if control[-1][0] == "guard":
                return (control[:-1], holders[:control[-1][1]]), []
            control = control[:-1]
        # Of the holders those stay here that were there ahead, to be looked at.
        return ((), holders[:base]), [("raise", self.cells(holders[:base]))]

    def walk(self, run):
        """Return the configuration behind a run, or None if it is none."""
        config = self.start()
        for event in run:
            fitting = [later for offered, later in self.unfold(config)[1] if offered == event]
            if len(fitting) != 1:
                return None
            config = fitting[0]
        return config


def held_by(holders):
    """Return a dict of the names that are held, with their worths."""
    return {holder[0]: holder[1] for holder in holders}


def renewed(holders, name, worth, mark):
    """Return holders with another worth for the newest one of a name."""
    if name is None:
        return holders
    newest = max(number for number, holder in enumerate(holders) if holder[0] == name)
    return holders[:newest] + ((name, worth, holders[newest][2], mark),) + holders[newest + 1:]


class Seen:
    """What a breadth-first search from a configuration finds, at most as far as a number of configurations."""

    def __init__(self, plain, config, most):
        self.least = {}
        self.ways = set()
        self.begun = set()
        self.calls = set()
        # The number of events up to which all is found, or None if there is nothing more at all.
        self.whole = 0
        base = len(config[1])
        level, seen = [config], {config}
        while level and len(seen) < most:
            later = []
            for now in level:
                for event, ahead in self.look(plain, now, base):
                    if ahead not in seen:
                        seen.add(ahead)
                        later.append(ahead)
            level = later
            self.whole += 1
        if not level:
            self.whole = None

    def look(self, plain, now, base):
        places, events, ways = plain.unfold(now, base)
        cells = tuple(plain.cells(now[1]))
        for place in places:
            self.least.setdefault((place, cells), self.whole)
        for word, after in ways:
            self.ways.add((word, tuple(after)))
        for event, ahead in events:
            if event[0] == "call":
                self.begun.add((plain.stack(ahead)[-1], tuple(plain.cells(ahead[1]))))
            if event[0] == "told":
                self.calls.add(event[1:])
        return events


class Heard(Seen):
    """What such a search finds, and what the events tell that it comes by."""

    def __init__(self, plain, config, most):
        # The fewest events of a list that ends with a "bare", as far as one was found.
        self.bare = None
        self.says = set()
        super().__init__(plain, config, most)

    def look(self, plain, now, base):
        events = super().look(plain, now, base)
        for event, _ in events:
            if event[0] == "bare" and self.bare is None:
                self.bare = self.whole + 1
            if event[0] == "say":
                self.says.add(event[1:])
        return events


def is_table_plainly(program, rows):
    """Return whether rows of functions, cells and ways are a table, by the words of the document."""
    told = {}
    for function, cells, ways in rows:
        if (function, tuple(cells)) in told:
            return False
        told[(function, tuple(cells))] = ways
    plain = Plain(program, told)
    if (plain.functions[0], ("",) * len(plain.names)) not in told:
        return False
    for function, cells, ways in rows:
        seen = Seen(plain, plain.frame(function, cells), 10 ** 9)
        if not all(call in told for call in seen.calls):
            return False
        if not all((word, list(after)) in ways for word, after in seen.ways):
            return False
    return True


class Traced:
    """What a breadth-first search through runs tells of holders, as far as a number of configurations."""

    def __init__(self, program, most):
        self.plain = Plain(program, traced=True)
        self.writers = {}
        self.used = set()
        level = [self.plain.start()]
        seen = set(level)
        while level and len(seen) < most:
            later = []
            for now in level:
                for ahead in self.look(now):
                    if ahead not in seen:
                        seen.add(ahead)
                        later.append(ahead)
            level = later
        # Whether this was all.
        self.whole = not level

    def look(self, now):
        places, events, _ = self.plain.unfold(now)
        newest = {holder[0]: holder for holder in now[1]}
        for place in places:
            step = self.step_at(place)
            for name, holder in newest.items():
                self.writers.setdefault((place, name), set()).add(holder[3])
                if name in self.plain.asked(step):
                    self.used.add(holder[2])
                if name in self.plain.read(step):
                    self.used.add(holder[3])
            if step[0] == "set" and step[1] is not None and step[1] not in newest:
                self.used.add(place)
        return [ahead for _, ahead in events]

    def step_at(self, place):
        function, path = place
        return self.plain.bodies[(function, path[:-1])][path[-1]]


class Lockstep:
    """What a breadth-first search finds through two configurations by the events that both have.

    It goes as far as a number of pairs of configurations.
    """

    def __init__(self, plain, config, other, twin, most):
        # The fewest events that just one of the two can have, as far as they were found.
        self.least = None
        # The pairs of cells with which both are left.
        self.left = set()
        self.bases = (len(config[1]), len(twin[1]))
        self.plains = (plain, other)
        level = [(config, twin)]
        seen = set(level)
        # The number of events up to which all is found, or None if there is nothing more at all.
        self.whole = 0
        while level and self.least is None and len(seen) < most:
            later = []
            for pair in level:
                for ahead in self.look(pair):
                    if ahead not in seen:
                        seen.add(ahead)
                        later.append(ahead)
            level = later
            self.whole += 1
        if not level or self.least is not None:
            self.whole = None

    def look(self, pair):
        found = []
        for plain, config, base in zip(self.plains, pair, self.bases):
            events = plain.unfold(config, base)[1]
            ahead = dict(events)
            assert len(ahead) == len(events)
            found.append(ahead)
        one, two = found
        if set(one) != set(two):
            self.least = self.whole + 1
            return []
        for event in one:
            if not one[event][0]:
                left = [tuple(plain.cells(config[event][1])) for plain, config in zip(self.plains, found)]
                self.left.add(tuple(left))
        return [(one[event], two[event]) for event in one]


def goes(plain, config, events):
    """Return whether events can come one after another from a configuration on."""
    base = len(config[1])
    for event in events:
        ahead = dict(plain.unfold(config, base)[1])
        if event not in ahead:
            return False
        config = ahead[event]
    return True
