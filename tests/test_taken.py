import unittest

from draw import values_with_programs
from heldnames.errors import InvalidCells, InvalidProgram, UnknownName
from heldnames.programs import Program
from heldnames.taken import apart, gives, takes
from test_cells import HORN, at, one
from test_programs import Caught, lists_in


def from_g(body, more=()):
    """Return a program whose second function g has a body; the first one never calls it."""
    return one([], more=[("g", body)] + list(more))


class Apart(Caught):
    """[35]: `apart`."""

    def checks(self, body, cells, other, wanted, more=()):
        """Check that these are the goings of g from just one of two cells, as short as can be, or None."""
        for one_cells, two in [(cells, other), (other, cells)]:
            events = apart(from_g(body, more), "g", one_cells, two)
            self.assertTrue(events in wanted if wanted else events is None, events)

    def test_equal_cells(self):
        body = [("say", "a"), ("either", [("set", "a", "y")], [("raise",)]), ("call", "g")]
        for cells in [["", ""], ["x", "y"], ["", "x"]]:
            self.checks(body, cells, list(cells), None)

    def test_said_worths(self):
        bad = [[("say", ("g", (0,)), "x")], [("say", ("g", (0,)), "y")]]
        self.checks([("say", "a")], ["x", ""], ["y", ""], bad)
        self.checks([("say", "a")], ["x", "x"], ["x", "y"], None)

    def test_names_that_nobody_asks(self):
        self.checks([], ["x", ""], ["y", "y"], None)
        self.checks([("hold", "a", "x", [("say", "a")]), ("set", "b", "y")], ["x", "x"], ["y", "y"], None)
        self.checks([("hold", "a", "x", [("say", "a")])], ["", "x"], ["y", ""], None)
        # What is left unlike makes no unlike goings.
        self.checks([("set", "b", "a")], ["x", "x"], ["y", "x"], None)

    def test_bare_on_one_side(self):
        bad = [[("say", ("g", (0,)), "x")], [("bare", ("g", (0,)))]]
        self.checks([("say", "a")], ["x", ""], ["", ""], bad)
        bad = [[("set", ("g", (0,)))], [("bare", ("g", (0,)))]]
        self.checks([("set", "a", "x")], ["x", "x"], ["", "x"], bad)
        self.checks([("set", None, "a")], ["x", "x"], ["", "x"], bad)
        bad = [[("hold", ("g", (0,)))], [("bare", ("g", (0,)))]]
        self.checks([("hold", None, "a", [])], ["x", "x"], ["", "x"], bad)
        bad = [[("bare", ("g", (0,)))], [("end", "g")]]
        self.checks([("when", "a", "x", [], [])], ["y", "x"], ["", "x"], bad)
        # Unlike names that are bare, where none of them is asked; and where each is stuck at the same step.
        self.checks([("hold", "a", "x", [("say", "a")])], ["x", ""], ["", "y"], None)
        self.checks([("set", "a", "b")], ["x", ""], ["", "y"], None)

    def test_nothing_comes_behind_a_bare(self):
        for step in [("say", "b"), ("set", "b", "x"), ("set", None, "b"), ("hold", None, "b", []),
            ("when", "b", "x", [], [])]:
            self.checks([step, ("say", "a")], ["x", ""], ["y", ""], None)
            self.assertIsNone(apart(one([step, ("say", "a")]), "f", ["x", ""], ["y", ""]))
        self.checks([("call", "h"), ("say", "a")], ["x", ""], ["y", ""], None, [("h", [("say", "b")])])

    def test_branches(self):
        bad = [[("set", ("g", (0, 0, 0)))], [("end", "g")]]
        self.checks([("when", "a", "x", [("set", "b", "x")], [])], ["x", "x"], ["y", "x"], bad)
        # Each takes another body, but without any event in them.
        empty = [("either", [], [("loop", [])])]
        self.checks([("when", "a", "x", empty, []), ("say", "b")], ["x", "x"], ["y", "x"], None)
        self.checks([("when", "a", "x", empty, []), ("say", "b")], ["x", "x"], ["", "x"], [
            [("bare", ("g", (0,)))], [("say", ("g", (1,)), "x")],
        ])
        body = [("either", [("when", "a", "x", [("raise",)], [])], [("raise",)])]
        self.checks(body, ["x", "x"], ["y", "x"], [[("raise", ("g", (0, 0, 0, 0)))], [("end", "g")]])

    def test_as_few_events_as_possible(self):
        long_one = [("set", None, "x")] * 5 + [("say", "a")]
        bad = [[("set", ("g", (0, 1, 0))), ("say", ("g", (0, 1, 1)), worth)] for worth in ["x", "y"]]
        self.checks([("either", long_one, [("set", "b", "x"), ("say", "a")])], ["x", "x"], ["y", "x"], bad)
        # By a call, or by a hold: the shorter way through is taken.
        more = [("h", [("either", [("set", None, "x")] * 2, [("hold", None, "x", [])]), ("set", "b", "a")])]
        for worths, many in [(["x", "y"], 6), (["y", "x"], 6)]:
            cells, other = [[worth, "x"] for worth in worths]
            events = apart(from_g([("call", "h"), ("say", "b")], more), "g", cells, other)
            self.assertEqual(len(events), many)
            self.assertEqual(events[0], ("call", ("g", (0,))))
            self.assertEqual(events[-2:-1], [("end", "h")])
            self.assertIn(events[-1], [("say", ("g", (1,)), "x"), ("say", ("g", (1,)), "y")])

    def test_at_most_until_the_frame_leaves(self):
        # Behind g, f says a, but that belongs to no going of g.
        program = one([("hold", "a", "x", [("call", "g"), ("say", "a")])], more=[("g", [("set", "b", "a")])])
        self.assertIsNone(apart(program, "g", ["x", "y"], ["y", "y"]))
        self.assertIsNone(apart(program, "g", ["y", "x"], ["y", "y"]))
        # A raise that leaves g belongs to its goings.
        body = [("when", "a", "x", [("raise",)], [("raise",)])]
        bad = [[("raise", ("g", (0, number, 0)))] for number in (0, 1)]
        self.checks(body, ["x", ""], ["y", ""], bad)
        self.checks([("raise",), ("say", "a")], ["x", ""], ["y", ""], None)
        # So does its end.
        self.checks([("when", "a", "x", [("call", "g")], [])], ["x", ""], ["y", ""],
            [[("call", ("g", (0, 0, 0)))], [("end", "g")]])

    def test_a_raise_to_a_guard_is_no_way_out(self):
        body = [("guard", [("call", "h")]), ("say", "a")]
        more = [("h", [("set", "a", "b"), ("raise",)])]
        begin = [("call", ("g", (0, 0))), ("set", ("h", (0,))), ("raise", ("h", (1,)))]
        bad = [begin + [("say", ("g", (1,)), worth)] for worth in ["x", "y"]]
        self.checks(body, ["x", "x"], ["x", "y"], bad, more)
        self.checks(body, ["y", "x"], ["x", "x"], None, more)

    def test_goings_without_end(self):
        self.checks([("loop", [("set", "b", "a")])], ["x", "x"], ["y", "x"], None)
        self.checks([("hold", "a", "a", [("call", "g")])], ["x", "x"], ["y", "x"], None)
        self.checks([("hold", "b", "a", [("either", [("call", "g")], [])]), ("set", "a", "x")], ["x", "x"],
            ["y", "x"], None)
        body = [("hold", "b", "a", [("either", [("call", "g")], [("say", "b")])])]
        begin = [("hold", ("g", (0,)))]
        bad = [begin + [("say", ("g", (0, 0, 1, 0)), worth)] for worth in ["x", "y"]]
        self.checks(body, ["x", "x"], ["y", "x"], bad)

    def test_what_recursion_brings(self):
        events = apart(HORN, "talk", ["low"], ["high"])
        self.assertIn(events, [[("set", ("talk", (0, 0, 0)))], [("say", ("talk", (0, 1, 0)), "high")]])
        # hold, call, set, call, say, end, end, drop, and then what is said
        for cells, last in [([""], ("bare", ("main", (1,)))), (["high"], ("say", ("main", (1,)), "high"))]:
            events = apart(HORN, "main", cells, ["low"])
            self.assertEqual(len(events), 9)
            self.assertIn(events[-1], [last, ("say", ("main", (1,)), "low")])

    def test_holders_of_the_frame_are_restored(self):
        body = [("hold", "a", "x", [("set", "a", "y")]), ("say", "a")]
        begin = [("hold", ("g", (0,))), ("set", ("g", (0, 0))), ("drop", ("g", (0,)))]
        self.checks(body, ["x", ""], ["y", ""], [begin + [("say", ("g", (1,)), worth)] for worth in ["x", "y"]])
        body = [("set", "a", "x"), ("hold", "a", "y", []), ("say", "a")]
        self.checks(body, ["x", ""], ["y", ""], None)

    def test_errors(self):
        for value in values_with_programs():
            self.raises(InvalidProgram, value, apart, value, "no function", "no cells", "no cells")
            if value != "f":
                self.raises(UnknownName, value, apart, one([]), value, "no cells", "no cells")
        bad = [value for value in values_with_programs() + [HORN] if value not in (["x", ""],)]
        for value in bad + [["x"], ["", "", ""], ["z", "x"], ["a", "x"], ["x", None], ("x", "y"), "xy", [["x"], ["y"]]]:
            self.raises(InvalidCells, value, apart, one([]), "f", value, "no cells")
            self.raises(InvalidCells, value, apart, one([]), "f", ["x", ""], value)
        self.assertIsNone(apart(other=["x", ""], cells=["", ""], function="f", program=one([])))

    def test_arguments_stay_and_results_are_new(self):
        cells, other = ["x", ""], ["y", ""]
        program = from_g([("set", "a", "y"), ("say", "b"), ("say", "a")])
        for _ in range(2):
            events = apart(program, "g", ["x", ""], ["x", "x"])
            self.assertEqual(len(events), 2)
            events.clear()
            self.assertIsNone(apart(program, "g", cells, other))
        self.assertEqual((cells, other), (["x", ""], ["y", ""]))


class Takes(Caught):
    """[36]: `takes`."""

    def checks(self, body, wanted, more=()):
        self.assertEqual(takes(from_g(body, more), "g"), wanted)

    def test_who_takes(self):
        self.checks([], [])
        self.checks([("say", "a")], ["a"])
        self.checks([("say", "b")], ["b"])
        self.checks([("say", "b"), ("say", "a")], ["a", "b"])
        self.checks([("when", "b", "x", [("raise",)], [])], ["b"])
        self.checks([("when", "b", "x", [], [])], [])
        self.checks([("when", "b", "x", [("set", "a", "x")], [("set", "a", "y")])], ["b"])

    def test_names_that_are_but_handed_on_within_a_name(self):
        self.checks([("set", "a", "a")], [])
        self.checks([("hold", "a", "a", [("set", "a", "x")])], [])
        self.checks([("set", None, "a")], [])
        self.checks([("hold", None, "a", [])], [])

    def test_names_that_are_overwritten_first(self):
        self.checks([("set", "a", "x"), ("say", "a")], [])
        self.checks([("either", [("set", "a", "x")], []), ("say", "a")], ["a"])
        self.checks([("hold", "a", "x", [("say", "a")])], [])
        self.checks([("hold", "a", "x", []), ("say", "a")], ["a"])
        self.checks([("set", "a", "b"), ("say", "a")], ["b"])

    def test_what_another_name_is_left_with(self):
        self.checks([("set", "b", "a")], ["a"])
        self.checks([("set", "a", "b")], ["b"])
        self.checks([("set", "b", "a"), ("raise",)], ["a"])
        self.checks([("guard", [("set", "b", "a"), ("raise",)])], ["a"])
        self.checks([("hold", "b", "x", [("set", "b", "a")])], [])
        self.checks([("set", "b", "a"), ("set", "b", "x")], [])
        self.checks([("hold", "b", "a", [("set", "a", "b")])], [])
        self.checks([("set", "b", "a"), ("set", "a", "x")], ["a"])
        # As long as the frame never leaves, nothing is left behind.
        self.checks([("set", "b", "a"), ("call", "g")], [])
        self.checks([("call", "h")], ["a"], [("h", [("set", "b", "a")])])

    def test_other_names_may_be_bare(self):
        # Only with b bare, or only with b held, does a come to anything.
        self.checks([("either", [("say", "b"), ("raise",)], []), ("say", "a")], ["a", "b"])
        # Once b isn't bare, a is set first.
        self.checks([("guard", [("set", "b", "a")]), ("set", "a", "x")], ["a"])
        program = one([("hold", "b", "x", [("call", "g")])], more=[("g", [("say", "b"), ("say", "a")])])
        self.assertEqual(takes(program, "g"), ["a", "b"])

    def test_cells_with_which_no_run_begins_it(self):
        program = one([("hold", "a", "x", [("call", "g")])], more=[("g", [("when", "a", "y", [("say", "b")], [])])])
        self.assertEqual(takes(program, "g"), ["a", "b"])
        self.assertEqual(takes(program, "f"), [])
        # No run begins g at all.
        self.checks([("when", "a", "y", [("say", "b")], [])], ["a", "b"])

    def test_with_a_single_worth_nothing_is_taken(self):
        program = Program(["a", "b"], ["x"], [("f", [("say", "a"), ("set", "b", "a")])])
        self.assertEqual(takes(program, "f"), [])

    def test_three_worths(self):
        # Only z is told from the others.
        body = [("when", "a", "z", [("raise",)], [])]
        self.assertEqual(takes(one(body, worths=("x", "y", "z")), "f"), ["a"])
        body = [("when", "a", "x", [("set", "a", "y")], []), ("say", "b")]
        self.assertEqual(takes(one(body, worths=("x", "y", "z")), "f"), ["a", "b"])

    def test_order(self):
        self.assertEqual(takes(one([("say", "b"), ("say", "a")], names=("b", "a")), "f"), ["b", "a"])

    def test_recursion(self):
        self.assertEqual([takes(HORN, "main"), takes(HORN, "talk")], [["tone"], ["tone"]])
        self.checks([("set", "a", "x"), ("call", "h")], ["b"],
            [("h", [("say", "a"), ("either", [("call", "g")], []), ("say", "b")])])

    def test_errors(self):
        for value in values_with_programs():
            self.raises(InvalidProgram, value, takes, value, "no function")
            self.raises(InvalidProgram, value, gives, value, "no function")
            if value != "f":
                self.raises(UnknownName, value, takes, one([]), value)
                self.raises(UnknownName, value, gives, one([]), value)
        self.assertEqual(takes(function="f", program=one([])), [])
        self.assertEqual(gives(function="f", program=one([])), [])

    def test_results_are_new(self):
        for call in [takes, gives]:
            for _ in range(2):
                told = call(one([("say", "a"), ("say", "b"), ("set", "a", "x"), ("set", "b", "y")]), "f")
                self.assertEqual(told, ["a", "b"])
                for value in lists_in(told):
                    value.clear()


class Gives(Caught):
    """[36]: `gives`."""

    def checks(self, body, wanted, more=()):
        self.assertEqual(gives(from_g(body, more), "g"), wanted)

    def test_who_gives(self):
        self.checks([], [])
        self.checks([("say", "a"), ("hold", "a", "x", [("set", "a", "y")])], [])
        self.checks([("set", "a", "x")], ["a"])
        self.checks([("set", "b", "a")], ["b"])
        self.checks([("set", "b", "y"), ("set", "a", "b")], ["a", "b"])
        self.checks([("set", "a", "a")], [])
        self.checks([("set", None, "x"), ("hold", None, "a", [])], [])

    def test_ways(self):
        self.checks([("set", "a", "x"), ("raise",)], ["a"])
        self.checks([("guard", [("set", "a", "x"), ("raise",)])], ["a"])
        self.checks([("set", "a", "x"), ("call", "g")], [])
        self.checks([("set", "a", "x"), ("either", [("call", "g")], [])], ["a"])
        self.checks([("hold", "b", "x", [("call", "h")])], ["a"], [("h", [("set", "a", "y"), ("set", "b", "y")])])
        self.checks([("hold", "a", "b", [("set", "b", "x"), ("raise",)])], ["b"])

    def test_all_cells_count(self):
        # Neither b bare nor b held alone.
        self.checks([("when", "a", "x", [("set", "b", "y")], [])], ["b"])
        self.checks([("when", "a", "x", [("set", "a", "y")], [])], ["a"])
        self.checks([("when", "a", "x", [("set", "a", "x")], [])], [])
        program = one([("hold", "a", "x", [("call", "g")])],
            more=[("g", [("when", "a", "y", [("set", "a", "x")], [])])])
        self.assertEqual(gives(program, "g"), ["a"])
        self.assertEqual(gives(program, "f"), [])

    def test_restored_within_the_frame(self):
        self.checks([("set", "a", "x"), ("set", "a", "y")], ["a"])
        # What is set back to what it was.
        self.checks([("hold", "b", "a", [("set", "a", "x"), ("set", "a", "b")])], [])

    def test_order_and_recursion(self):
        self.assertEqual(gives(one([("set", "b", "x"), ("set", "a", "y")], names=("b", "a")), "f"), ["b", "a"])
        self.assertEqual([gives(HORN, "main"), gives(HORN, "talk")], [[], ["tone"]])


if __name__ == "__main__":
    unittest.main()
