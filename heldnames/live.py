"""Programs that are led on, deed by deed."""

from heldnames.asked import idle, muted
from heldnames.bodies import copied_body, is_body
from heldnames.cells import met
from heldnames.checks import check_function
from heldnames.deeds import Deeds
from heldnames.errors import InvalidItem, InvalidPlace
from heldnames.programs import Program, check_program, step_found


class Live:
    """A program whose bodies can be replaced and whose holds and sets can be muted."""

    def __init__(self, program):
        check_program(program)
        self._program = program
        self._deeds = Deeds()

    def __eq__(self, other):
        return isinstance(other, Live) and self._program == other._program

    def rewrite(self, function, body):
        """Put another body in the place of that of a function."""
        check_function(self._program, function)
        if not is_body_of(self._program, body):
            raise InvalidItem(body)
        self._lead_on(("rewrite", function, copied_body(body)), rewritten(self._program, function, body))

    def mute(self, place):
        """Mute the hold or the set at a place, which has a name."""
        step = step_found(self._program, place)
        if step is None or step[0] not in ("hold", "set") or step[1] is None:
            raise InvalidPlace(place)
        self._lead_on(("mute", place), muted(self._program, [place]))

    def _lead_on(self, deed, program):
        """Note a deed, and go on with the program that it makes."""
        self._deeds.note(deed, self._program)
        self._program = program

    def shown(self):
        """Return the program as it stands."""
        return self._program

    def met(self, place):
        """Return the list, in order, of all cells with which runs come to the step at a place."""
        return met(self._program, place)

    def idle(self):
        """Return the list, in order, of the holds and sets with a name that nobody asks."""
        return idle(self._program)

    def back(self):
        """Undo the last deed that has not been undone."""
        self._program = self._deeds.back()

    def log(self):
        """Return the list of the deeds that have not been undone, from the first to the last."""
        return [copied_deed(deed) for deed in self._deeds.log()]

    def copy(self):
        """Return an independent live program with the same program and the same deeds to undo."""
        twin = Live(self._program)
        twin._deeds = self._deeds.copy()
        return twin


def is_body_of(program, value):
    """Return whether a value is a body of a program."""
    functions = [function for function, _ in program.functions()]
    return is_body(value, program.names(), program.worths(), functions)


def rewritten(program, function, body):
    """Return a program with another body for a function."""
    functions = [(called, body if called == function else inner) for called, inner in program.functions()]
    return Program(program.names(), program.worths(), functions)


def copied_deed(deed):
    """Return a deed that has no list in common with another one."""
    if deed[0] == "mute":
        return deed
    word, function, body = deed
    return (word, function, copied_body(body))
