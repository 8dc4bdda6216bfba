"""Who gave the worths that are asked, and holds and sets that nobody asks."""

from heldnames.bodies import bodies_within
from heldnames.checks import check_name
from heldnames.errors import InvalidItem, InvalidList
from heldnames.flow import Flow
from heldnames.origins import Origins, mark_of
from heldnames.programs import Program, check_place, check_program, step_found
from heldnames.search import searched_runs


def writers(program, place, name):
    """Return the list, in order, of the holds and sets that gave a name the worth that it has at a step."""
    check_program(program)
    check_place(program, place)
    check_name(program, name)
    flow = Flow(program)
    origins = Origins(list(searched_runs(flow).states.values()), flow.order.index(name), True)
    found = 0
    for state, marks in origins.marks.items():
        if state.spot == flow.placed[place]:
            found = found | marks
    return sorted([here for here, spot in flow.placed.items() if found & mark_of(spot)])


def idle(program):
    """Return the list, in order, of the holds and sets with a name that nobody asks."""
    check_program(program)
    flow = Flow(program)
    states = list(searched_runs(flow).states.values())
    asked = [asked_spots(states, name) for name in range(len(flow.order))]
    found = []
    for place, spot in flow.placed.items():
        if spot.word in ("hold", "set") and spot.name is not None and not asked[spot.name] & mark_of(spot):
            found.append(place)
    return sorted(found)


def asked_spots(states, name):
    """Return the set of the holds and sets of a name that somebody asks."""
    holders = Origins(states, name, False)
    worths = Origins(states, name, True)
    found = 0
    for state in states:
        spot = state.spot
        # A set asks for a holder, but not for the worth that it replaces.
        if name in spot.asked:
            found = found | holders.marks[state]
        if name in spot.read:
            found = found | worths.marks[state]
        if spot.word == "set" and spot.name == name and state.cells[name] == "":
            found = found | mark_of(spot)
    return found


def muted(program, places):
    """Return the program with None for the names of the holds and sets at places."""
    check_program(program)
    check_muted(program, places)
    functions = []
    for function, body in program.functions():
        paths = [path for called, path in places if called == function]
        functions.append((function, muted_body(body, paths, ())))
    return Program(program.names(), program.worths(), functions)


def check_muted(program, value):
    """Raise an error unless a value is a list of places of holds and sets, each once."""
    if not isinstance(value, list):
        raise InvalidList(value)
    ahead = []
    for item in value:
        step = step_found(program, item)
        if step is None or step[0] not in ("hold", "set") or item in ahead:
            raise InvalidItem(item)
        ahead.append(item)


def muted_body(body, paths, path):
    """Return a body with None for the names of the steps at paths; those of its own steps begin with a path."""
    steps = []
    for number, step in enumerate(body):
        here = path + (number,)
        parts = list(step)
        if here in paths:
            parts[1] = None
        inner = bodies_within(step)
        for at, (branch, within) in enumerate(inner):
            # Bodies are the last items of a step.
            parts[at - len(inner)] = muted_body(within, paths, here + branch)
        steps.append(tuple(parts))
    return steps
