"""Which worths make a difference to what a function does, and which it leaves unlike."""

from heldnames.abreast import least_unlike, searched_abreast, unlike_states
from heldnames.alone import Alone
from heldnames.checks import all_cells, check_cells, check_function
from heldnames.flow import Flow
from heldnames.moves import with_worth
from heldnames.programs import check_program
from heldnames.search import Search


def apart(program, function, cells, other):
    """Return a going of a function from just one of two cells, with as few events as possible, or None."""
    check_program(program)
    check_function(program, function)
    check_cells(program, cells)
    check_cells(program, other)
    flow = Flow(program)
    pair = (tuple(cells), tuple(other))
    return least_unlike(searched_abreast(flow, flow, function, pair), function, pair)


def takes(program, function):
    """Return the list of the names whose worths at the beginning of a function make a difference."""
    check_program(program)
    check_function(program, function)
    flow = Flow(program)
    found = []
    for name, word in enumerate(flow.order):
        if any([is_told_apart(flow, function, pair, name) for pair in pairs_unlike(program, name)]):
            found.append(word)
    return found


def pairs_unlike(program, name):
    """Return the list of the pairs of cells that are unlike for a name alone, which is bare in neither."""
    found = []
    worths = program.worths()
    for cells in all_cells(program):
        if cells[name] != "":
            # Each pair once, whichever of its cells is the first.
            for worth in worths[worths.index(cells[name]) + 1:]:
                found.append((cells, with_worth(cells, name, worth)))
    return found


def is_told_apart(flow, function, pair, name):
    """Return whether from a pair of cells the goings, or what they leave other names with, are unlike."""
    search = searched_abreast(flow, flow, function, pair)
    if unlike_states(search):
        return True
    for _, (one, two) in search.begun[(function, pair)].ways:
        if with_worth(one, name, "") != with_worth(two, name, ""):
            return True
    return False


def gives(program, function):
    """Return the list of the names that a function can leave with another worth."""
    check_program(program)
    check_function(program, function)
    search = Search(Alone(Flow(program)))
    states = [(cells, search.begin(function, cells)) for cells in all_cells(program)]
    search.work()
    found = {}
    for cells, state in states:
        for _, left in state.ways:
            for name, ahead, behind in zip(program.names(), cells, left):
                if ahead != behind:
                    found[name] = True
    return [name for name in program.names() if name in found]
