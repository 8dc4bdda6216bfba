"""Checks of arguments that have to fit a program."""

from heldnames.errors import InvalidCells, UnknownName


def is_cells(program, value):
    """Return whether a value is a list of a worth or no worth for each name of a program."""
    if not isinstance(value, list) or len(value) != len(program.names()):
        return False
    worths = program.worths() + [""]
    return all([worth in worths for worth in value])


def check_cells(program, value):
    """Raise an error unless a value is cells for a program."""
    if not is_cells(program, value):
        raise InvalidCells(value)


def check_function(program, value):
    """Raise an error unless a value is the name of a function of a program."""
    if value not in [function for function, _ in program.functions()]:
        raise UnknownName(value)
