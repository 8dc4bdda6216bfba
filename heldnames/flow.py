"""The steps of a program as numbered spots, with what lies behind and within each of them."""

from heldnames.bodies import bodies_within


class Spot:
    """Where a frame can stand: ahead of a step, ahead of the drop of a hold, or at the end of its function."""

    def __init__(self, number, word, place, behind, outer):
        self.number = number
        # One of the nine words of steps, "drop" or "end".
        self.word = word
        # Of a "drop" the place of its hold, of an "end" the name of its function.
        self.place = place
        # The spot where the frame goes on, for each way to go on within the step.
        self.firsts = []
        self.behind = behind
        # The innermost hold or guard around it in its function.
        self.outer = outer
        # The numbers of the program's names that the step is about, and the worth beside them.
        self.name = None
        self.source = None
        self.worth = ""
        # All names that are asked, and those of them whose worths are asked, too.
        self.asked = []
        self.read = []
        self.function = ""


class Flow:
    """The spots of a program, found by their places."""

    def __init__(self, program):
        self.order = program.names()
        self.spots = []
        self.begins = {}
        self.placed = {}
        functions = program.functions()
        self.main = functions[0][0]
        for function, body in functions:
            end = self.new_spot("end", function, None, None)
            self.begins[function] = self.laid_body(body, (function, ()), end, None)

    def bare(self):
        """Return the cells in which all names are bare."""
        return ("",) * len(self.order)

    def new_spot(self, word, place, behind, outer):
        """Return one more spot."""
        spot = Spot(len(self.spots), word, place, behind, outer)
        self.spots.append(spot)
        return spot

    def laid_body(self, body, place, behind, outer):
        """Return the first spot of a body whose steps have places that begin with a place."""
        function, path = place
        # From the last step to the first one, so that what is behind a step is there ahead of it.
        for number, step in reversed(list(enumerate(body))):
            behind = self.laid_step(step, (function, path + (number,)), behind, outer)
        return behind

    def laid_step(self, step, place, behind, outer):
        """Return the spot of a step."""
        spot = self.new_spot(step[0], place, behind, outer)
        self.placed[place] = spot
        self.tell_names(spot, step)
        last = behind
        around = outer
        if spot.word == "hold":
            last = self.new_spot("drop", place, behind, spot)
            last.name = spot.name
        if spot.word == "loop":
            last = spot
        if spot.word in ("hold", "guard"):
            around = spot
        function, path = place
        spot.firsts = [
            self.laid_body(inner, (function, path + branch), last, around) for branch, inner in bodies_within(step)
        ]
        return spot

    def tell_names(self, spot, step):
        """Tell a spot which names and which worth its step is about."""
        if spot.word == "call":
            spot.function = step[1]
        if spot.word in ("say", "when"):
            spot.name = self.order.index(step[1])
            spot.read = [spot.name]
        if spot.word == "when":
            spot.worth = step[2]
        if spot.word in ("hold", "set"):
            self.tell_source(spot, step[1], step[2])
        spot.asked = list(spot.read)
        # A hold brings a holder of its own, but a set needs one that is there.
        if spot.word == "set" and spot.name is not None:
            spot.asked.append(spot.name)

    def tell_source(self, spot, name, source):
        """Tell the spot of a hold or a set its name and its source."""
        if name is not None:
            spot.name = self.order.index(name)
        if source in self.order:
            spot.source = self.order.index(source)
            spot.read = [spot.source]
        else:
            spot.worth = source
