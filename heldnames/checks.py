"""Checks of arguments that have to fit a program."""

from heldnames.errors import InvalidCells, UnknownName


def is_cells(program, value):
    """Return whether a value is a list of a worth or no worth for each name of a program."""
    if not isinstance(value, list) or len(value) != len(program.names()):
        return False
    worths = program.worths() + [""]
    return all([worth in worths for worth in value])


def all_cells(program):
    """Return the list of all cells for a program, as tuples."""
    found = [()]
    for _ in program.names():
        found = [cells + (worth,) for cells in found for worth in [""] + program.worths()]
    return found


def check_cells(program, value):
    """Raise an error unless a value is cells for a program."""
    if not is_cells(program, value):
        raise InvalidCells(value)


def check_function(program, value):
    """Raise an error unless a value is the name of a function of a program."""
    if value not in [function for function, _ in program.functions()]:
        raise UnknownName(value)


def check_name(program, value):
    """Raise an error unless a value is one of the names of a program."""
    if value not in program.names():
        raise UnknownName(value)
