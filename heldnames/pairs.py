"""Programs that are alike but for the names and sources of their holds and sets."""

from heldnames.abreast import least_unlike, searched_abreast
from heldnames.bodies import shape_of
from heldnames.errors import InvalidProgram
from heldnames.flow import Flow
from heldnames.programs import Program, check_program


def first_unlike(program, other):
    """Return a run of just one of two programs of one shape, with as few events as possible, or None."""
    check_program(program)
    if not is_of_shape(program, other):
        raise InvalidProgram(other)
    flow = Flow(program)
    begun = (flow.bare(), flow.bare())
    return least_unlike(searched_abreast(flow, Flow(other), flow.main, begun), flow.main, begun)


def is_of_shape(program, value):
    """Return whether a value is a program of the shape of another one."""
    if not isinstance(value, Program) or value.names() != program.names() or value.worths() != program.worths():
        return False
    return function_shapes(value) == function_shapes(program)


def function_shapes(program):
    """Return the list of the names of the functions with the shapes of their bodies."""
    return [(function, shape_of(body)) for function, body in program.functions()]
