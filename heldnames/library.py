"""Cells of a program, kept by names."""

from heldnames.abreast import searched_abreast, unlike_states
from heldnames.begun import stuck_states
from heldnames.bodies import is_name
from heldnames.checks import check_cells
from heldnames.deeds import Deeds
from heldnames.errors import InvalidName, TakenName, UnknownName
from heldnames.flow import Flow
from heldnames.programs import check_program
from heldnames.search import searched


class Library:
    """Keeps cells of a program by names."""

    def __init__(self, program):
        check_program(program)
        self._program = program
        self._deeds = Deeds()
        # The cells, as tuples. The dict and the list are replaced by each deed, and never changed.
        self._kept = {}
        self._names = []

    def __eq__(self, other):
        return isinstance(other, Library) and self._program == other._program and self._kept == other._kept

    def __len__(self):
        return len(self._names)

    def __contains__(self, x):
        # A dict could not be asked for any value.
        return x in self._names

    def __iter__(self):
        return iter(self._names)

    def put(self, name, cells):
        """Keep cells by a name that is not in use."""
        if not is_name(name):
            raise InvalidName(name)
        if name in self._names:
            raise TakenName(name)
        check_cells(self._program, cells)
        self._go_on(("put", name), {**self._kept, name: tuple(cells)})

    def drop(self, name):
        """Take out the cells that are kept by a name."""
        self._check_kept(name)
        self._go_on(("drop", name), {word: cells for word, cells in self._kept.items() if word != name})

    def change(self, name, cells):
        """Replace the cells that are kept by a name."""
        self._check_kept(name)
        check_cells(self._program, cells)
        self._go_on(("change", name), {**self._kept, name: tuple(cells)})

    def _check_kept(self, name):
        """Raise an error unless cells are kept by a name."""
        if name not in self._names:
            raise UnknownName(name)

    def _go_on(self, deed, kept):
        """Note a deed, and go on with what it leaves to be kept."""
        self._deeds.note(deed, self._kept)
        self._keep(kept)

    def _keep(self, kept):
        """Keep just these cells."""
        self._kept = kept
        self._names = sorted(kept)

    def program(self):
        """Return the program."""
        return self._program

    def cells_of(self, name):
        """Return the cells that are kept by a name."""
        self._check_kept(name)
        return list(self._kept[name])

    def names(self):
        """Return the list, in order, of the names by which cells are kept."""
        return list(self._names)

    def quiet(self):
        """Return the list, in order, of the names of the cells from which no name is ever asked that is bare."""
        flow = Flow(self._program)
        return [name for name in self._names if not stuck_states(searched(flow, flow.main, self._kept[name]))]

    def alike(self, cells):
        """Return the list, in order, of the names of the cells from which the goings are those from cells."""
        check_cells(self._program, cells)
        flow = Flow(self._program)
        wanted = tuple(cells)
        return [name for name in self._names if has_same_goings(flow, self._kept[name], wanted)]

    def back(self):
        """Undo the last deed that has not been undone."""
        self._keep(self._deeds.back())

    def log(self):
        """Return the list of the deeds that have not been undone, from the first to the last."""
        return self._deeds.log()

    def copy(self):
        """Return an independent library that keeps the same and has the same deeds to undo."""
        twin = Library(self._program)
        twin._keep(self._kept)
        twin._deeds = self._deeds.copy()
        return twin


def has_same_goings(flow, cells, other):
    """Return whether the first function of a program has the same goings from two cells."""
    return not unlike_states(searched_abreast(flow, flow, flow.main, (cells, other)))
