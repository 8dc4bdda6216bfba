import random
import unittest

from draw import drawn_program, sure_program, values_with_programs
from heldnames.begun import bare_from, begun, says_from
from heldnames.cells import met
from heldnames.errors import InvalidCells, InvalidProgram, UnknownName
from heldnames.live import Live
from heldnames.programs import Program, places, step_at
from heldnames.runs import is_run, next_events
from plain import Heard, Plain, goes
from test_against_plain import all_cells
from test_cells import HORN, MANY, at, one
from test_programs import Caught
from test_taken import from_g

# How many configurations a search goes through.
MOST = 200


class BareFrom(Caught):
    """[50]: `bare_from`."""

    def checks(self, body, cells, wanted, more=()):
        """Check that this is what is told of g, a going as short as can be or None."""
        self.assertEqual(self.told(bare_from, from_g(body, more), "g", cells), wanted)

    def test_each_step_that_asks(self):
        steps = [
            ("say", "a"), ("when", "a", "x", [], []), ("set", "a", "x"), ("set", "b", "a"), ("set", None, "a"),
            ("hold", "b", "a", []), ("hold", None, "a", []),
        ]
        for step in steps:
            self.checks([step], ["", "x"], [("bare", ("g", (0,)))])
            self.checks([step], ["x", "x"], None)
        self.checks([("hold", "a", "x", [])], ["", ""], None)
        self.checks([("set", None, "x")], ["", ""], None)

    def test_none(self):
        self.checks([], ["", ""], None)
        self.checks([("raise",), ("say", "a")], ["", ""], None)
        self.checks([("call", "g"), ("say", "a")], ["", ""], None)
        self.checks([("hold", "a", "x", [("call", "h")])], ["", ""], None, [("h", [("say", "a")])])
        self.checks([("when", "a", "x", [("say", "b")], [])], ["y", ""], None)

    def test_as_few_events_as_possible(self):
        far = [("set", None, "x")] * 4 + [("say", "b")]
        body = [("either", far, [("set", None, "x"), ("say", "a")])]
        self.checks(body, ["", ""], [("set", ("g", (0, 1, 0))), ("bare", ("g", (0, 1, 1)))])
        begin = [("set", ("g", (0, 0, number))) for number in range(4)]
        self.checks(body, ["x", ""], begin + [("bare", ("g", (0, 0, 4)))])
        more = [("h", [("either", [("set", None, "x")] * 2, [("hold", None, "x", [("raise",)])])])]
        wanted = [("call", ("g", (0, 0))), ("hold", ("h", (0, 1, 0))), ("raise", ("h", (0, 1, 0, 0)))]
        wanted.append(("bare", ("g", (1,))))
        self.checks([("guard", [("call", "h"), ("raise",)]), ("say", "a")], ["", ""], wanted, more)

    def test_within_what_is_called(self):
        more = [("h", [("hold", "b", "x", [("say", "b"), ("say", "a")])])]
        wanted = [("call", ("g", (0,))), ("hold", ("h", (0,))), ("say", ("h", (0, 0)), "x"), ("bare", ("h", (0, 1)))]
        self.checks([("call", "h")], ["", ""], wanted, more)
        self.checks([("call", "h")], ["y", ""], None, more)

    def test_at_most_until_the_frame_leaves(self):
        # Behind g, f asks b, but that belongs to no going of g.
        program = one([("call", "g"), ("say", "b")], more=[("g", [("hold", "a", "x", [("say", "a")])])])
        self.assertIsNone(bare_from(program, "g", ["", ""]))
        self.assertEqual(bare_from(program, "f", ["", ""])[-1], ("bare", at(1)))

    def test_functions_and_cells_that_no_run_comes_to(self):
        self.assertIsNone(bare_from(HORN, "talk", ["high"]))
        self.assertEqual(bare_from(HORN, "talk", [""]), [("bare", ("talk", (0,)))])
        events = self.told(bare_from, HORN, "main", [""])
        self.assertEqual(len(events), 9)
        self.assertTrue(is_run(HORN, events))
        self.assertEqual(events[-1], ("bare", ("main", (1,))))

    def test_recursion(self):
        # Each call uncovers nothing, so the name stays bare however deep the stack is.
        body = [("hold", "b", "x", [("either", [("call", "g")], [("say", "a")])])]
        self.checks(body, ["", ""], [("hold", ("g", (0,))), ("bare", ("g", (0, 0, 1, 0)))])
        self.checks(body, ["x", ""], None)

    def test_arguments_by_name(self):
        events = bare_from(cells=[""], function="talk", program=HORN)
        self.assertEqual(events, [("bare", ("talk", (0,)))])


class SaysFrom(Caught):
    """[50]: `says_from`."""

    def checks(self, body, cells, wanted, more=()):
        wanted = [(place if isinstance(place[0], str) else ("g", place), worth) for place, worth in wanted]
        self.assertEqual(self.told(says_from, from_g(body, more), "g", cells), wanted)

    def test_what_is_said(self):
        self.checks([], ["x", "y"], [])
        self.checks([("say", "a"), ("say", "b")], ["x", "y"], [((0,), "x"), ((1,), "y")])
        self.checks([("say", "b"), ("set", "b", "a"), ("say", "b")], ["x", "y"], [((0,), "y"), ((2,), "x")])

    def test_a_bare_name_is_not_said(self):
        self.checks([("say", "a")], ["", "y"], [])
        self.checks([("say", "b"), ("say", "a"), ("say", "b")], ["", "y"], [((0,), "y")])
        self.checks([("set", None, "a"), ("say", "b")], ["", "y"], [])

    def test_each_once_and_in_order(self):
        body = [("loop", [("say", "a"), ("either", [("set", "a", "x")], [("set", "a", "y")])]), ("say", "a")]
        wanted = [((0, 0), "x"), ((0, 0), "y"), ((1,), "x"), ((1,), "y")]
        self.checks(body, ["x", ""], wanted)
        self.checks(body, ["y", ""], wanted)
        more = [("h", [("say", "a")]), ("e", [("say", "a"), ("call", "h")])]
        body = [("say", "a"), ("hold", "a", "y", [("call", "e")]), ("call", "h")]
        self.checks(body, ["x", ""],
            [(("e", (0,)), "y"), ((0,), "x"), (("h", (0,)), "x"), (("h", (0,)), "y")], more)

    def test_order_of_paths(self):
        body = [("either", [("say", "a")] * 11, [("say", "a")]), ("say", "a")]
        wanted = [((0, 0, number), "x") for number in range(11)] + [((0, 1, 0), "x"), ((1,), "x")]
        self.checks(body, ["x", ""], wanted)

    def test_what_does_not_come(self):
        self.checks([("raise",), ("say", "a")], ["x", "x"], [])
        self.checks([("say", "b"), ("call", "g"), ("say", "a")], ["x", "x"], [((0,), "x")])
        self.checks([("when", "a", "y", [("say", "a")], [("say", "b")])], ["x", "x"], [((0, 1, 0), "x")])

    def test_functions_and_cells_that_no_run_comes_to(self):
        self.assertEqual(says_from(HORN, "talk", ["high"]), [(("talk", (0, 1, 0)), "high")])
        self.assertEqual(says_from(HORN, "talk", [""]), [])
        self.assertEqual(says_from(HORN, "main", [""]), [(("talk", (0, 1, 0)), "high")])
        self.assertEqual(says_from(MANY, "f", ["", ""]), [(at(0, 0, 1), "y")])

    def test_arguments_by_name(self):
        self.assertEqual(says_from(cells=["low"], program=HORN, function="talk"), [(("talk", (0, 1, 0)), "high")])


class Begun(Caught):
    """[51]."""

    def body_of(self, program, function, cells):
        name, body = begun(program, function, cells).functions()[0]
        self.assertEqual(name, "begin")
        return body

    def test_order_of_the_holds(self):
        call = [("call", "f")]
        program = one([], names=("b", "a", "c"))
        self.assertEqual(self.body_of(program, "f", ["x", "y", "x"]),
            [("hold", "b", "x", [("hold", "a", "y", [("hold", "c", "x", call)])])])

    def test_no_hold_for_a_name_that_is_bare(self):
        program = one([], names=("b", "a", "c"), more=[("g", [])])
        call = [("call", "g")]
        self.assertEqual(self.body_of(program, "g", ["", "", ""]), call)
        self.assertEqual(self.body_of(program, "g", ["", "y", ""]), [("hold", "a", "y", call)])
        self.assertEqual(self.body_of(program, "g", ["y", "", "x"]), [("hold", "b", "y", [("hold", "c", "x", call)])])

    def test_all_else_is_as_it_was(self):
        more = begun(HORN, "main", [""])
        self.assertEqual([more.names(), more.worths()], [HORN.names(), HORN.worths()])
        self.assertEqual(more.functions()[1:], HORN.functions())
        self.assertEqual(begun(cells=[""], function="main", program=HORN), more)
        self.assertEqual(len(HORN.functions()), 2)

    def test_three_functions_and_four(self):
        functions = [(function, [("call", "h")]) for function in "fghi"]
        for many in (1, 2, 3):
            program = Program(["a"], ["x"], functions[3 - many:3])
            self.assertEqual(len(begun(program, "h", ["x"]).functions()), many + 1)
        program = Program(["a"], ["x"], functions)
        self.raises(InvalidProgram, program, begun, program, "no function", "no cells")

    def test_called_begin(self):
        for functions in [[("begin", [])], [("f", []), ("begin", [])]]:
            program = Program(["a"], ["x"], functions)
            self.raises(InvalidProgram, program, begun, program, "no function", "no cells")
        # Names and worths may be called so.
        program = Program(["begin"], ["x"], [("f", [])])
        self.assertEqual(self.body_of(program, "f", ["x"]), [("hold", "begin", "x", [("call", "f")])])
        program = Program(["a"], ["begin"], [("f", [])])
        self.assertEqual(self.body_of(program, "f", ["begin"]), [("hold", "a", "begin", [("call", "f")])])

    def test_twice(self):
        program = begun(HORN, "main", [""])
        self.raises(InvalidProgram, program, begun, program, "main", [""])


class Errors(Caught):
    def test_no_program(self):
        for call in [bare_from, says_from, begun]:
            for value in values_with_programs() + [Live(HORN)]:
                self.raises(InvalidProgram, value, call, value, "no function", "no cells")

    def test_no_function(self):
        for call in [bare_from, says_from, begun]:
            for value in values_with_programs() + [HORN, "tone", "low", ["main"], ("main", [])]:
                if value != "main":
                    self.raises(UnknownName, value, call, HORN, value, "no cells")

    def test_no_cells(self):
        bad = [["x"], ["low", "low"], [], ("low",), "low", [None], [True], [["low"]], ["tone"], [" "]]
        for call in [bare_from, says_from, begun]:
            for value in values_with_programs() + [HORN] + bad:
                if value != [""]:
                    self.raises(InvalidCells, value, call, HORN, "talk", value)
            self.raises(InvalidCells, bad[0], call, MANY, "g", bad[0])

    def test_arguments_stay(self):
        cells = ["low"]
        for call in [bare_from, says_from, begun]:
            call(HORN, "talk", cells)
            self.assertEqual(cells, ["low"])
        program = begun(HORN, "talk", cells)
        cells[0] = "high"
        self.assertEqual(program, begun(HORN, "talk", ["low"]))


class Drawn(unittest.TestCase):
    """Against a slow search through whole stacks, over programs drawn with a fixed seed."""

    def asked(self, seed, many, most=4):
        """Return programs, functions and cells drawn at random."""
        chance = random.Random(seed)
        for number in range(many):
            program = drawn_program(chance, 7, 4, number % 2 == 0)
            for function, _ in program.functions():
                for cells in chance.sample(all_cells(program), min(most, len(all_cells(program)))):
                    yield program, function, cells

    def check_bare(self, plain, start, heard, events):
        """Check a going to a bare name, and return what kind of going it is."""
        if events is None:
            self.assertIsNone(heard.bare)
            return "none" if heard.whole is None else "none as far as known"
        self.assertTrue(goes(plain, start, events))
        self.assertEqual(events[-1][0], "bare")
        if heard.bare is None:
            self.assertIsNotNone(heard.whole)
            self.assertGreater(len(events), heard.whole)
            return "far"
        self.assertEqual(len(events), heard.bare)
        return "near" if len(events) < 4 else "later"

    def test_bare_from(self):
        found = {"none": 0, "none as far as known": 0, "near": 0, "later": 0}
        for program, function, cells in self.asked(41, 250):
            plain = Plain(program)
            start = plain.frame(function, cells)
            kind = self.check_bare(plain, start, Heard(plain, start, MOST), bare_from(program, function, cells))
            found[kind] = found.get(kind, 0) + 1
        self.assertGreater(min(found.values()), 20, found)

    def test_long_goings(self):
        """Programs that leave nothing to choice have a single run, which can be followed far."""
        chance = random.Random(42)
        lengths = []
        for _ in range(100):
            program = sure_program(chance)
            functions = program.functions()
            # Within the holds of the first function no name is bare, but behind them they all are.
            functions[0][1].append(("say", "a"))
            program = Program(program.names(), program.worths(), functions)
            function, cells = chance.choice([("f", ["", "x", "y"]), ("g", ["x", "y", ""]), ("f", ["x", "", ""])])
            plain = Plain(program)
            start = plain.frame(function, cells)
            heard = Heard(plain, start, 4000)
            if heard.whole is None:
                self.assertEqual(says_from(program, function, cells), sorted(heard.says))
                events = bare_from(program, function, cells)
                self.check_bare(plain, start, heard, events)
                lengths.append(len(events or []))
        self.assertGreater(len([many for many in lengths if many > 3]), 20, sorted(lengths))
        self.assertGreater(len([many for many in lengths if many > 200]), 8, sorted(lengths))

    def test_says_from(self):
        found = {"whole": 0, "in part": 0, "said": 0, "by runs": 0}
        for program, function, cells in self.asked(43, 200):
            plain = Plain(program)
            heard = Heard(plain, plain.frame(function, cells), MOST)
            told = says_from(program, function, cells)
            self.assertEqual(told, sorted(set(told)))
            self.assertEqual(heard.says - set(told), set())
            found["said"] += len(told)
            found["whole" if heard.whole is None else "in part"] += 1
            if heard.whole is None:
                self.assertEqual(set(told), heard.says)
            if len(program.functions()) < 4:
                self.assertEqual(told, self.said_in_runs(begun(program, function, cells)))
                found["by runs"] += 1
        self.assertGreater(min(found.values()), 50, found)

    def said_in_runs(self, program):
        found = []
        for place in places(program, "say"):
            number = program.names().index(step_at(program, place)[1])
            # Where other names are bare, some cells are met more than once with this worth.
            found += sorted({(place, cells[number]) for cells in met(program, place) if cells[number] != ""})
        return sorted(found)

    def test_runs_of_what_is_begun(self):
        """Behind the holds and the call the events to come are those of the function, until it leaves."""
        chance = random.Random(44)
        many = 0
        for program, function, cells in self.asked(45, 120, 2):
            plain = Plain(program)
            config = plain.frame(function, cells)
            base = len(config[1])
            wider = begun(program, function, cells)
            run = [("hold", ("begin", (0,) * number)) for number in range(1, base + 1)]
            run.append(("call", ("begin", (0,) * (base + 1))))
            for _ in range(10):
                ahead = dict(plain.unfold(config, base)[1])
                if not config[0]:
                    break
                self.assertEqual(next_events(wider, run), sorted(ahead))
                many += len(ahead)
                if not ahead:
                    break
                event = chance.choice(sorted(ahead))
                run.append(event)
                config = ahead[event]
        self.assertGreater(many, 1000)


if __name__ == "__main__":
    unittest.main()
