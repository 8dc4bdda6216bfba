"""[3]: the functions answer within seconds up to the limits."""

import time
import unittest

from heldnames.cells import is_table, met, run_to, table, ways_out
from heldnames.programs import Program
from heldnames.runs import cells_of, holders_of, is_run, next_events, stack_of
from test_against_plain import all_cells, all_places

SECONDS = 5


def one_of(step, other):
    return ("either", [step], [other])


def setting(names, worths, first, second):
    """Return a body of 12 steps that can set any name and call two functions, again and again."""
    last, worth = names[-1], worths[-1]
    steps = [
        one_of(("set", names[0], "x"), ("set", names[0], "y")),
        one_of(("set", names[1], "x"), ("set", last, worth)),
        one_of(("call", first), ("call", second)),
    ]
    return [("loop", steps), ("set", last, names[0]), ("call", second)]


def raising(names, worths, first, second):
    last, worth = names[-1], worths[-1]
    deep = ("hold", names[1], worth, [("either", [("call", second)], [("guard", [("call", first)])])])
    steps = [one_of(("hold", names[0], names[1], [("call", first)]), ("raise",)), ("set", last, names[0]), deep]
    return [("loop", [("guard", steps)])]


def holding(names, worths, first, second):
    last, worth = names[-1], worths[-1]
    deep = ("hold", last, "x", [("either", [("call", first)], [("set", names[0], worth)])])
    steps = [("hold", names[0], "x", [("hold", names[1], "y", [deep])]), ("guard", [("call", second)])]
    return [("loop", steps), ("hold", names[0], worth, [("hold", last, "y", [("call", second)])])]


def large_programs():
    """Return programs of four functions that call one another and themselves, with as many cells as may be."""
    found = []
    for names, worths in [(["a", "b", "c"], ["x", "y"]), (["a", "b"], ["x", "y", "z"])]:
        for kinds in [(setting, raising, setting), (raising, raising, setting), (holding, setting, raising)]:
            bodies = [("f", holding(names, worths, "g", "h"))]
            for number, kind in enumerate(kinds):
                function, later = "ghi"[number], "hig"[number]
                bodies.append((function, kind(names, worths, function, later)))
            found.append(Program(names, worths, bodies))
    return found


def endless_program():
    """Return a program in which a frame of the first function leaves, but only behind very many events."""
    # With a and b as digits, g and k count one on, and h calls g twelve times, up to the last number.
    last = ("when", "a", "y", [("hold", "a", "z", [("call", "h")])], [("hold", "a", "x", [("call", "k")])])
    count = [("when", "a", "x", [("hold", "a", "y", [("call", "h")])], [last])]
    ended = ("when", "b", "y", [("hold", "b", "z", [("call", "h")])], [("say", "b")])
    carry = [("when", "b", "x", [("hold", "b", "y", [("call", "h")])], [ended])]
    start = [("hold", "a", "x", [("hold", "b", "x", [("call", "h"), ("say", "a")])])]
    return Program(["a", "b"], ["x", "y", "z"], [("f", start), ("g", count), ("h", [("call", "g")] * 12), ("k", carry)])


class Limits(unittest.TestCase):
    def timed(self, call, *arguments):
        began = time.monotonic()
        told = call(*arguments)
        self.assertLess(time.monotonic() - began, SECONDS)
        return told

    def test_sizes(self):
        for program in large_programs():
            for function in ["g", "h", "i"]:
                many = len([place for place in all_places(program) if place[0] == function])
                self.assertTrue(10 <= many <= 12, many)
            self.assertEqual(len(all_cells(program)), 27 if len(program.names()) == 3 else 16)

    def test_large_programs(self):
        for program in large_programs():
            rows = self.timed(table, program)
            self.assertGreater(len(rows), 12)
            self.assertTrue(self.timed(is_table, program, rows))
            for place in all_places(program):
                for cells in self.timed(met, program, place)[-2:]:
                    run = self.timed(run_to, program, place, cells)
                    self.assertEqual(cells_of(program, run), cells)
            for cells in all_cells(program):
                self.timed(ways_out, program, "g", cells)

    def test_largest_table(self):
        for program in large_programs():
            rows = []
            for function, _ in program.functions():
                for cells in all_cells(program):
                    bare = [worth == "" for worth in cells]
                    fits = [after for after in all_cells(program) if [worth == "" for worth in after] == bare]
                    rows.append((function, cells, [(word, after) for word in ["end", "raise"] for after in fits] * 3))
            self.assertTrue(self.timed(is_table, program, rows))

    def test_ways_out_of_very_many_events(self):
        program = endless_program()
        self.assertEqual(self.timed(ways_out, program, "g", ["x", "x"]), [("end", ["x", "x"])])
        self.assertEqual(self.timed(ways_out, program, "f", ["", ""]), [("end", ["", ""])])
        self.assertEqual(len(self.timed(table, program)), 22)
        self.assertTrue(self.timed(is_table, program, table(program)))
        # Behind the first call of f there are far too many events, so no run to there is asked for.
        self.assertEqual(self.timed(met, program, ("f", (0, 0, 1))), [["x", "x"]])
        self.assertIsNone(self.timed(run_to, program, ("f", (0, 0, 1)), ["y", "x"]))
        self.assertEqual(self.timed(met, program, ("k", (0, 1, 0, 1, 0))), [["x", "z"]])
        self.assertEqual(len(self.timed(run_to, program, ("k", (0, 1, 0, 1, 0)), ["x", "z"])), 34)

    def test_runs_of_300_events(self):
        program = Program(["a", "b"], ["x", "y"], [("f", [("hold", "a", "x", [("either", [("call", "f")], [])])])])
        run = [("hold", ("f", (0,))), ("call", ("f", (0, 0, 0, 0)))] * 100 + [("hold", ("f", (0,)))]
        run += [("drop", ("f", (0,))), ("end", "f")] * 49 + [("drop", ("f", (0,)))]
        self.assertEqual(len(run), 300)
        self.assertTrue(self.timed(is_run, program, run))
        self.assertEqual(self.timed(next_events, program, run), [("end", "f")])
        self.assertEqual(self.timed(stack_of, program, run), ["f"] * 52)
        self.assertEqual(self.timed(holders_of, program, run), [("a", "x")] * 51)
        self.assertEqual(self.timed(cells_of, program, run), ["x", ""])

    def test_least_run_of_3000_events(self):
        # 11 calls of g, each of 11 calls of h, each of as many steps as fit.
        bodies = [("f", [("call", "g")] * 11 + [("say", "a")]), ("g", [("call", "h")] * 11)]
        bodies.append(("h", [("set", None, "x")] * 12))
        program = Program(["a"], ["x"], bodies)
        run = self.timed(run_to, program, ("f", (11,)), [""])
        self.assertEqual(len(run), 11 * (11 * 14 + 2))
        bodies[2] = ("h", [("set", None, "x")] * 9 + [("call", "i")] * 3)
        program = Program(["a"], ["x"], bodies + [("i", [("set", None, "x")] * 2)])
        run = self.timed(run_to, program, ("f", (11,)), [""])
        self.assertEqual(len(run), 11 * (11 * 23 + 2))
        self.assertTrue(2700 < len(run) < 3000)
        self.assertTrue(self.timed(is_run, program, run))
        self.assertEqual(self.timed(stack_of, program, run), ["f"])

    def test_deep_stack_in_a_least_run(self):
        # With each frame the names, as digits, count one on; only the last frame leaves, by a raise or by ends.
        count = ("when", "a", "x", [("set", "a", "y")], [("set", "a", "x"), ("when", "b", "x", [("set", "b", "y")], [
            ("set", "b", "x"), ("when", "c", "x", [("set", "c", "y")], [("raise",)])])])
        start = [("guard", [("call", "g")]), ("say", "a")]
        for name in ["a", "b", "c"]:
            start = [("hold", name, "x", start)]
        program = Program(["a", "b", "c"], ["x", "y"], [("f", start), ("g", [count, ("call", "g"), ("say", "a")])])
        run = self.timed(run_to, program, ("f", (0, 0, 0, 1)), ["x", "x", "y"])
        self.assertEqual(run[-1][0], "raise")
        self.assertEqual(run.count(("call", ("g", (1,)))), 7)
        self.assertIsNone(run_to(program, ("g", (2,)), ["x", "x", "x"]))


if __name__ == "__main__":
    unittest.main()
