"""What a single spot makes of cells, which are told here as a tuple of worths."""


def is_stuck(spot, cells):
    """Return whether a name that is bare is asked at a spot."""
    return any([cells[name] == "" for name in spot.asked])


def is_silent(spot):
    """Return whether a program goes on at a spot without an event, unless it is stuck there."""
    return spot.word in ("either", "loop", "when", "guard")


def silent_ahead(spot, cells):
    """Return the list of the spots to which a program goes on from a silent spot where it isn't stuck."""
    if spot.word == "loop":
        return spot.firsts + [spot.behind]
    if spot.word == "when":
        if cells[spot.name] == spot.worth:
            return [spot.firsts[0]]
        return [spot.firsts[1]]
    return list(spot.firsts)


def worth_at(spot, cells):
    """Return the worth of the source of the step at a spot."""
    if spot.source is None:
        return spot.worth
    return cells[spot.source]


def with_worth(cells, name, worth):
    """Return cells with another worth for the name with a number, or the same ones for no name."""
    if name is None:
        return cells
    return cells[:name] + (worth,) + cells[name + 1:]


def after_source(spot, cells):
    """Return the cells behind the event of a hold or a set."""
    return with_worth(cells, spot.name, worth_at(spot, cells))


def event_at(spot, cells):
    """Return the event that comes at a spot, or None if the program goes on without one."""
    if is_stuck(spot, cells):
        return ("bare", spot.place)
    if is_silent(spot):
        return None
    if spot.word == "say":
        return ("say", spot.place, cells[spot.name])
    return (spot.word, spot.place)


def restored(spot, ahead, left):
    """Return the cells behind a hold or a call, from those ahead of it and those with which what it brings is left."""
    if spot.name is None:
        return left
    return with_worth(left, spot.name, ahead[spot.name])


def events_from(spot, cells):
    """Return the tuples of event and spot for all events that can come next from a spot on, each once."""
    found = []
    seen = {}
    todo = [spot]
    while todo:
        here = todo.pop()
        if here.number in seen:
            continue
        seen[here.number] = True
        event = event_at(here, cells)
        if event is None:
            todo.extend(silent_ahead(here, cells))
        else:
            found.append((event, here))
    return found
