"""Holds and sets that can go without any change of the runs."""

from heldnames.abreast import searched_abreast, unlike_states
from heldnames.asked import muted
from heldnames.flow import Flow
from heldnames.programs import check_program


def spared(program):
    """Return the list, in order, of the holds and sets with a name each of which could be muted alone."""
    check_program(program)
    flow = Flow(program)
    begun = (flow.bare(), flow.bare())
    found = []
    for place, spot in flow.placed.items():
        if spot.word in ("hold", "set") and spot.name is not None:
            search = searched_abreast(flow, Flow(muted(program, [place])), flow.main, begun)
            if not unlike_states(search):
                found.append(place)
    return sorted(found)
