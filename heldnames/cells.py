"""Which cells steps are come to with and frames are left with, for all runs."""

from heldnames.alone import Alone
from heldnames.checks import check_cells, check_function, is_cells
from heldnames.flow import Flow
from heldnames.programs import check_place, check_program
from heldnames.search import Search, searched, searched_runs
from heldnames.shortest import shortest_run


def met(program, place):
    """Return the list, in order, of all cells with which runs come to the step at a place."""
    check_program(program)
    check_place(program, place)
    search = searched_runs(Flow(program))
    return sorted([list(state.cells) for state in search.states.values() if is_step_state(state, place)])


def is_step_state(state, place):
    """Return whether a state is one of the step at a place."""
    # The drop of a hold has the place of the hold.
    return state.spot.place == place and state.spot.word != "drop"


def run_to(program, place, cells):
    """Return a run with as few events as possible that comes to a step with cells, or None if there is none."""
    check_program(program)
    check_place(program, place)
    check_cells(program, cells)
    flow = Flow(program)
    search = searched_runs(flow)
    goal = search.states.get((flow.placed[place].number, tuple(cells)), None)
    if goal is None:
        return None
    start = search.begun[(flow.main, flow.bare())]
    events, _ = shortest_run(search, start, [goal])
    return events


def ways_out(program, function, cells):
    """Return the list, in order, of all ways with which a frame that begins with cells can leave."""
    check_program(program)
    check_function(program, function)
    check_cells(program, cells)
    begun = (function, tuple(cells))
    search = searched(Flow(program), function, begun[1])
    return shown_ways(search.begun[begun])


def shown_ways(state):
    """Return the list, in order, of the ways out of a state, as they are told to callers."""
    return sorted([(word, list(cells)) for word, cells in state.ways])


def table(program):
    """Return the table, in order, of just the frames that stand on the stack in runs."""
    check_program(program)
    rows = []
    for (function, cells), state in searched_runs(Flow(program)).begun.items():
        rows.append((function, list(cells), shown_ways(state)))
    return sorted(rows)


def is_table(program, value):
    """Return whether a value is a table of a program."""
    check_program(program)
    if not has_table_form(program, value):
        return False
    flow = Flow(program)
    told = {(function, tuple(cells)): plain_ways(ways) for function, cells, ways in value}
    if len(told) != len(value) or (flow.main, flow.bare()) not in told:
        return False
    search = Search(Alone(flow), told)
    for function, cells in told:
        search.begin(function, cells)
    search.work()
    if any([call not in told for call in search.called]):
        return False
    return all([has_ways(told[begun], state) for begun, state in search.begun.items()])


def plain_ways(ways):
    """Return a list of ways with their cells as tuples, each once."""
    return sorted({(word, tuple(cells)) for word, cells in ways})


def has_ways(ways, state):
    """Return whether all ways out of a state are among ways."""
    return all([way in ways for way in state.ways])


def has_table_form(program, value):
    """Return whether a value is a list of tuples of a function, cells and ways."""
    if not isinstance(value, list):
        return False
    functions = [function for function, _ in program.functions()]
    for row in value:
        if not isinstance(row, tuple) or len(row) != 3:
            return False
        function, cells, ways = row
        if function not in functions or not is_cells(program, cells):
            return False
        if not are_ways(program, ways, cells):
            return False
    return True


def are_ways(program, value, begun):
    """Return whether a value is a list of ways out of what has begun with cells."""
    if not isinstance(value, list):
        return False
    for way in value:
        if not isinstance(way, tuple) or len(way) != 2:
            return False
        word, cells = way
        if word not in ("end", "raise") or not is_cells(program, cells):
            return False
        # Holders neither come nor go for those ahead of the frame.
        if [worth == "" for worth in cells] != [worth == "" for worth in begun]:
            return False
    return True
