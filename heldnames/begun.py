"""What functions do from given cells on, and programs that begin so."""

from heldnames.checks import check_cells, check_function
from heldnames.errors import InvalidProgram
from heldnames.flow import Flow
from heldnames.moves import event_at, is_stuck
from heldnames.programs import Program, check_program
from heldnames.search import searched
from heldnames.shortest import shortest_run

BEGIN = "begin"


def bare_from(program, function, cells):
    """Return a going of a function from cells to a bare name, with as few events as possible, or None."""
    search = searched_from(program, function, cells)
    goals = stuck_states(search)
    if not goals:
        return None
    events, goal = shortest_run(search, search.begun[(function, tuple(cells))], goals)
    return events + [event_at(goal.spot, goal.cells)]


def says_from(program, function, cells):
    """Return the list, in order, of the places and worths of all that a function can say from cells on."""
    said = []
    for state in searched_from(program, function, cells).states.values():
        if state.spot.word == "say" and not is_stuck(state.spot, state.cells):
            said.append((state.spot.place, state.cells[state.spot.name]))
    # Each once, though it may be said while other names are held with one worth or another.
    return sorted(set(said))


def searched_from(program, function, cells):
    """Return the search from a function with cells on, with the errors for all three arguments."""
    check_program(program)
    check_function(program, function)
    check_cells(program, cells)
    return searched(Flow(program), function, tuple(cells))


def stuck_states(search):
    """Return the list of the states of a search through one program at which a name is asked that is bare."""
    return [state for state in search.states.values() if is_stuck(state.spot, state.cells)]


def begun(program, function, cells):
    """Return the program with one more function ahead, which holds the cells and calls the function."""
    if not has_room(program):
        raise InvalidProgram(program)
    check_function(program, function)
    check_cells(program, cells)
    body = [("call", function)]
    # From the last name to the first one, whose hold is the outermost.
    for name, worth in reversed(list(zip(program.names(), cells))):
        if worth != "":
            body = [("hold", name, worth, body)]
    return Program(program.names(), program.worths(), [(BEGIN, body)] + program.functions())


def has_room(value):
    """Return whether a value is a program to which a function of the name for beginnings can be added."""
    if not isinstance(value, Program):
        return False
    functions = [function for function, _ in value.functions()]
    return len(functions) <= 3 and BEGIN not in functions
