"""Programs, and the places of their steps."""

from heldnames.bodies import copied_body, is_body, is_name, is_word, steps_of
from heldnames.errors import InvalidItem, InvalidList, InvalidPlace, InvalidProgram, InvalidWord
from heldnames.same import is_same


class Program:
    """Names, the worths that they can be held with, and functions that hold, set and ask them."""

    def __init__(self, names, worths, functions):
        check_names(names, [])
        check_names(worths, names)
        check_functions(functions, names, worths)
        self._names = list(names)
        self._worths = list(worths)
        self._functions = copied_functions(functions)

    def __eq__(self, other):
        return (
            isinstance(other, Program)
            and self._names == other._names
            and self._worths == other._worths
            and self._functions == other._functions
        )

    def names(self):
        """Return the list of the names."""
        return list(self._names)

    def worths(self):
        """Return the list of the worths."""
        return list(self._worths)

    def functions(self):
        """Return the list of the functions, each a tuple of its name and its body."""
        return copied_functions(self._functions)


def copied_functions(functions):
    """Return a copy of a list of functions, with copies of their bodies."""
    return [(function, copied_body(body)) for function, body in functions]


def check_names(value, taken):
    """Raise an error unless a value is a list of 1 to 3 names, each once and none of them taken."""
    if not isinstance(value, list) or not 1 <= len(value) <= 3:
        raise InvalidList(value)
    for number, item in enumerate(value):
        if not is_name(item) or item in taken or item in value[:number]:
            raise InvalidItem(item)


def check_functions(value, names, worths):
    """Raise an error unless a value is a list of 1 to 4 functions, each name once."""
    if not isinstance(value, list) or not 1 <= len(value) <= 4:
        raise InvalidList(value)
    # Also a function whose own body does not fit may be called: the error is that of its own item.
    called = [item[0] for item in value if is_named_pair(item)]
    ahead = []
    for item in value:
        if not is_named_pair(item) or item[0] in ahead or not is_body(item[1], names, worths, called):
            raise InvalidItem(item)
        ahead.append(item[0])


def is_named_pair(value):
    """Return whether a value is a tuple of a name and something else."""
    return isinstance(value, tuple) and len(value) == 2 and is_name(value[0])


def check_program(value):
    """Raise an error unless a value is a program."""
    if not isinstance(value, Program):
        raise InvalidProgram(value)


def placed_steps(program):
    """Return the tuples of place and step for all steps of a program, in the order of `places`."""
    found = []
    for function, body in program.functions():
        for path, step in steps_of(body):
            found.append(((function, path), step))
    return found


def step_found(program, value):
    """Return the step whose place a value is, or None if it is the place of none."""
    for place, step in placed_steps(program):
        if is_same(value, place):
            return step
    return None


def check_place(program, value):
    """Raise an error unless a value is the place of a step of a program."""
    if step_found(program, value) is None:
        raise InvalidPlace(value)


def places(program, word):
    """Return the list of the places of all steps with a word, function by function."""
    check_program(program)
    if not is_word(word):
        raise InvalidWord(word)
    return [place for place, step in placed_steps(program) if step[0] == word]


def step_at(program, place):
    """Return the step at a place."""
    check_program(program)
    step = step_found(program, place)
    if step is None:
        raise InvalidPlace(place)
    return step
