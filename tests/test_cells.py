import unittest

from draw import values_with_programs
from heldnames.cells import is_table, met, run_to, table, ways_out
from heldnames.errors import InvalidCells, InvalidPlace, InvalidProgram, UnknownName
from heldnames.programs import Program, step_at
from heldnames.runs import cells_of, is_run, stack_of
from test_programs import lists_in


def one(body, names=("a", "b"), worths=("x", "y"), more=()):
    return Program(list(names), list(worths), [("f", body)] + list(more))


def at(*path):
    return ("f", path)


TALK = [("when", "tone", "low", [("set", "tone", "high"), ("call", "talk")], [("say", "tone")])]
HORN = Program(
    ["tone"], ["low", "high"],
    [("main", [("hold", "tone", "low", [("call", "talk")]), ("say", "tone")]), ("talk", TALK)],
)
# Each name can have each worth, and g comes back in many ways.
MIXED = [("loop", [("either", [("set", "a", "x")], [("set", "a", "y")]), ("either", [("raise",)], [("call", "g")])])]
MANY = one([("hold", "a", "x", [("hold", "b", "y", [("guard", [("call", "g")]), ("say", "b")])])], more=[("g", MIXED)])


class Met(unittest.TestCase):
    """[20]: `met`."""

    def test_first_step(self):
        self.assertEqual(met(one([("say", "a")]), at(0)), [["", ""]])
        self.assertEqual(met(place=at(0), program=one([("raise",)])), [["", ""]])

    def test_never(self):
        self.assertEqual(met(one([("raise",), ("say", "a")]), at(1)), [])
        self.assertEqual(met(one([("say", "a"), ("say", "b")]), at(1)), [])
        self.assertEqual(met(one([], more=[("g", [("say", "a")])]), ("g", (0,))), [])
        self.assertEqual(met(one([("call", "f"), ("say", "a")]), at(1)), [])

    def test_steps_without_events_are_come_to(self):
        body = [("either", [("loop", [("guard", [("hold", "a", "x", [("when", "a", "x", [("raise",)], [])])])])], [])]
        program = one(body)
        for path in [(0,), (0, 0, 0), (0, 0, 0, 0), (0, 0, 0, 0, 0)]:
            self.assertEqual(met(program, ("f", path)), [["", ""]])
        self.assertEqual(met(program, at(0, 0, 0, 0, 0, 0)), [["x", ""]])
        self.assertEqual(met(program, at(0, 0, 0, 0, 0, 0, 0, 0)), [["x", ""]])

    def test_asking_step_is_come_to_bare(self):
        program = one([("when", "a", "x", [("say", "b")], [("say", "a")])])
        self.assertEqual(met(program, at(0)), [["", ""]])
        self.assertEqual(met(program, at(0, 0, 0)), [])
        self.assertEqual(met(program, at(0, 1, 0)), [])

    def test_only_the_beginning_of_a_step_counts(self):
        # Ahead of the drop a is y, but the hold isn't come to then.
        program = one([("hold", "b", "x", [("hold", "a", "x", [("set", "a", "y"), ("set", "b", "y")])])])
        self.assertEqual(met(program, at(0, 0)), [["", "x"]])
        program = one([("hold", "a", "x", [("guard", [("set", "a", "y")])])])
        self.assertEqual(met(program, at(0, 0)), [["x", ""]])
        program = one([("hold", "a", "x", [("either", [("set", "a", "y")], [])])])
        self.assertEqual(met(program, at(0, 0)), [["x", ""]])

    def test_a_loop_is_come_to_again(self):
        program = one([("hold", "a", "x", [("loop", [("either", [("set", "a", "y")], [("set", "a", "x")])])])])
        self.assertEqual(met(program, at(0, 0)), [["x", ""], ["y", ""]])
        self.assertEqual(met(program, at(0, 0, 0)), [["x", ""], ["y", ""]])

    def test_behind_calls(self):
        self.assertEqual(met(HORN, ("main", (1,))), [[""]])
        self.assertEqual(met(HORN, ("talk", (0, 1, 0))), [["high"]])
        self.assertEqual(met(MANY, at(0, 0, 1)), [["x", "y"], ["y", "y"]])

    def test_holders_of_the_frame_are_kept_apart(self):
        body = [("hold", "a", "x", [("call", "g"), ("say", "a")]), ("hold", "a", "y", [("call", "g"), ("say", "a")])]
        program = one(body, more=[("g", [("either", [("hold", "a", "x", [("call", "g")])], [])])])
        self.assertEqual(met(program, at(0, 1)), [["x", ""]])
        self.assertEqual(met(program, at(1, 1)), [["y", ""]])
        self.assertEqual(met(program, ("g", (0,))), [["x", ""], ["y", ""]])

    def test_hold_of_none_and_sources_that_are_names(self):
        body = [("hold", "a", "y", [("hold", "b", "a", [("hold", None, "b", [("set", "a", "x"), ("say", "b")])])])]
        program = one(body + [("raise",)])
        self.assertEqual(met(program, at(0, 0, 0)), [["y", "y"]])
        self.assertEqual(met(program, at(0, 0, 0, 1)), [["x", "y"]])
        self.assertEqual(met(program, at(1)), [["", ""]])

    def test_errors(self):
        for value in values_with_programs():
            with self.assertRaises(InvalidProgram) as caught:
                met(value, "no place")
            self.assertIs(caught.exception.value, value)
        for value in values_with_programs() + [HORN, ("f", ()), ("f", (1,)), ("f", (0, 0)), ("talk", (0, 0))]:
            with self.assertRaises(InvalidPlace) as caught:
                met(HORN, value)
            self.assertIs(caught.exception.value, value)

    def test_results_are_new(self):
        for _ in range(2):
            told = met(MANY, ("g", (0,)))
            self.assertEqual(told, [["x", "y"], ["y", "y"]])
            for value in lists_in(told):
                value.append("more")


class RunTo(unittest.TestCase):
    """[20]: `run_to`."""

    def checks(self, program, place, cells, many):
        run = run_to(program, place, cells)
        self.assertEqual(len(run), many)
        self.assertTrue(is_run(program, run))
        self.assertEqual(cells_of(program, run), cells)
        self.assertEqual(stack_of(program, run)[-1], place[0])

    def test_no_event(self):
        self.assertEqual(run_to(one([("say", "a")]), at(0), ["", ""]), [])
        self.assertEqual(run_to(one([("loop", [("either", [], [("say", "a")])])]), at(0, 0, 1, 0), ["", ""]), [])

    def test_none(self):
        self.assertIsNone(run_to(HORN, ("main", (1,)), ["low"]))
        self.assertIsNone(run_to(HORN, ("talk", (0, 1, 0)), ["low"]))
        self.assertIsNone(run_to(one([("call", "f"), ("say", "a")]), at(1), ["", ""]))

    def test_fewest(self):
        self.checks(HORN, ("talk", (0, 1, 0)), ["high"], 4)
        self.checks(MANY, at(0, 0, 1), ["x", "y"], 4)
        self.checks(MANY, at(0, 0, 1), ["y", "y"], 5)

    def test_the_shorter_way_through_a_call(self):
        long = [("set", None, "x")] * 4
        program = one([("call", "g"), ("raise",)], more=[("g", [("either", long, [("either", long[:3], long[:2])])])])
        self.checks(program, at(1), ["", ""], 4)

    def test_a_raise_is_shorter_than_ends(self):
        more = [("g", [("call", "h")]), ("h", [("call", "i")]), ("i", [("either", [], [("raise",)])])]
        program = one([("guard", [("call", "g")]), ("raise",)], more=more)
        self.checks(program, at(1), ["", ""], 4)
        self.assertEqual(run_to(program, at(1), ["", ""])[-1], ("raise", ("i", (0, 1, 0))))

    def test_through_recursion(self):
        # Each frame of g but the last one sets one name, and behind its call the other one.
        deep = [("when", "a", "x", [("set", "a", "y"), ("call", "g"), ("set", "b", "y")], [("set", "b", "x")])]
        program = one([("hold", "a", "x", [("hold", "b", "y", [("call", "g"), ("raise",)])])], more=[("g", deep)])
        self.checks(program, at(0, 0, 1), ["y", "y"], 9)
        self.checks(program, ("g", (0, 0, 2)), ["y", "x"], 7)

    def test_same_call_again_in_what_it_calls(self):
        program = one([("either", [("call", "f")], []), ("either", [("raise",)], [])])
        self.checks(program, at(1, 0, 0), ["", ""], 0)
        program = one([("call", "g"), ("raise",)], more=[("g", [("either", [("call", "g"), ("call", "g")], [])])])
        self.checks(program, at(1), ["", ""], 2)

    def test_errors(self):
        for value in values_with_programs():
            with self.assertRaises(InvalidProgram) as caught:
                run_to(value, "no place", "no cells")
            self.assertIs(caught.exception.value, value)
            with self.assertRaises(InvalidPlace) as caught:
                run_to(HORN, value, "no cells")
            self.assertIs(caught.exception.value, value)
        bad = values_with_programs() + [HORN, ["low", "low"], ["tone"], [True], [None], ("low",), [["low"]], [("low",)]]
        for value in bad:
            if value != [""]:
                with self.assertRaises(InvalidCells) as caught:
                    run_to(HORN, ("main", (0,)), value)
                self.assertIs(caught.exception.value, value)

    def test_names_of_arguments(self):
        self.assertEqual(run_to(cells=[""], place=("main", (0,)), program=HORN), [])


class WaysOut(unittest.TestCase):
    """[21]"""

    def test_end_and_raise(self):
        self.assertEqual(ways_out(one([]), "f", ["x", ""]), [("end", ["x", ""])])
        self.assertEqual(ways_out(one([("raise",)]), "f", ["x", ""]), [("raise", ["x", ""])])
        self.assertEqual(ways_out(one([("guard", [("raise",)])]), "f", ["x", ""]), [("end", ["x", ""])])
        self.assertEqual(ways_out(one([("loop", [("raise",)])]), "f", ["", ""]), [("end", ["", ""]), ("raise", ["", ""])])

    def test_no_way(self):
        self.assertEqual(ways_out(one([("say", "a")]), "f", ["", "x"]), [])
        self.assertEqual(ways_out(one([("say", "a")]), "f", ["y", ""]), [("end", ["y", ""])])
        self.assertEqual(ways_out(one([("call", "f")]), "f", ["x", "x"]), [])
        self.assertEqual(ways_out(one([("guard", [("call", "f")])]), "f", ["x", "x"]), [])
        self.assertEqual(ways_out(one([("call", "g")], more=[("g", [("call", "f")])]), "g", ["x", "x"]), [])

    def test_cells_that_no_run_has(self):
        self.assertEqual(ways_out(HORN, "talk", ["high"]), [("end", ["high"])])
        self.assertEqual(ways_out(HORN, "main", ["high"]), [("end", ["high"])])
        self.assertEqual(ways_out(HORN, "main", [""]), [])

    def test_holders_of_its_own_are_gone(self):
        body = [("hold", "a", "x", [("set", "a", "y"), ("set", "b", "a"), ("either", [("raise",)], [])])]
        self.assertEqual(ways_out(one(body), "f", ["x", "x"]), [("end", ["x", "y"]), ("raise", ["x", "y"])])
        self.assertEqual(ways_out(one(body), "f", ["", "x"]), [("end", ["", "y"]), ("raise", ["", "y"])])
        self.assertEqual(ways_out(one(body), "f", ["x", ""]), [])

    def test_guards_of_frames_above(self):
        more = [("g", [("guard", [("call", "h")]), ("set", "a", "x")]), ("h", [("set", "b", "y"), ("raise",)])]
        program = one([("call", "g")], more=more)
        self.assertEqual(ways_out(program, "f", ["y", "x"]), [("end", ["x", "y"])])
        self.assertEqual(ways_out(program, "h", ["y", "x"]), [("raise", ["y", "y"])])

    def test_both_ways_of_a_recursion(self):
        body = [("either", [("call", "f"), ("set", "a", "y")], [("either", [("raise",)], [])])]
        ways = [("end", ["x", ""]), ("end", ["y", ""]), ("raise", ["x", ""])]
        self.assertEqual(ways_out(one(body), "f", ["x", ""]), ways)

    def test_raises_out_of_holds_to_a_guard_around(self):
        inner = [("hold", "a", "x", [("hold", "b", "x", [("set", "a", "y"), ("call", "g")])])]
        program = one([("guard", inner), ("set", "b", "a")], more=[("g", [("set", "b", "y"), ("raise",)])])
        self.assertEqual(ways_out(program, "f", ["x", "y"]), [("end", ["x", "x"])])

    def test_errors(self):
        for value in values_with_programs():
            with self.assertRaises(InvalidProgram) as caught:
                ways_out(value, "no function", "no cells")
            self.assertIs(caught.exception.value, value)
            if value != "main":
                with self.assertRaises(UnknownName) as caught:
                    ways_out(HORN, value, "no cells")
                self.assertIs(caught.exception.name, value)
            if value != [""]:
                with self.assertRaises(InvalidCells) as caught:
                    ways_out(HORN, "main", value)
                self.assertIs(caught.exception.value, value)
        with self.assertRaises(UnknownName):
            ways_out(HORN, "tone", [""])

    def test_results_are_new_and_arguments_stay(self):
        cells = ["x", "x"]
        for _ in range(2):
            told = ways_out(one([("loop", [("raise",)])]), "f", cells)
            self.assertEqual(told, [("end", ["x", "x"]), ("raise", ["x", "x"])])
            for value in lists_in(told):
                value.append("more")
        self.assertEqual(cells, ["x", "x"])
        self.assertEqual(ways_out(cells=[""], function="talk", program=HORN), [])


class Table(unittest.TestCase):
    """[22]: `table`."""

    def test_only_frames_of_runs(self):
        program = one([("hold", "a", "x", [("call", "h")])], more=[("h", []), ("g", []), ("d", [("call", "g")])])
        self.assertEqual(table(program), [("f", ["", ""], [("end", ["", ""])]), ("h", ["x", ""], [("end", ["x", ""])])])

    def test_in_order_of_names(self):
        program = Program(["a"], ["x"], [("z", [("call", "b"), ("call", "c")]), ("c", []), ("b", [])])
        self.assertEqual([row[0] for row in table(program)], ["b", "c", "z"])

    def test_first_step_again_is_no_beginning(self):
        # The loop is come to again with y, but no frame of g begins so.
        program = one([("hold", "a", "x", [("call", "g")])], more=[("g", [("loop", [("set", "a", "y")])])])
        ways = [("end", ["x", ""]), ("end", ["y", ""])]
        self.assertEqual(table(program), [("f", ["", ""], [("end", ["", ""])]), ("g", ["x", ""], ways)])

    def test_no_list_twice(self):
        found = lists_in(table(MANY))
        self.assertEqual(len({id(value) for value in found}), len(found))

    def test_results_are_new(self):
        whole = table(program=MANY)
        for value in lists_in(table(MANY)):
            value.append("more")
        self.assertEqual(table(MANY), whole)

    def test_errors(self):
        for value in values_with_programs():
            with self.assertRaises(InvalidProgram) as caught:
                table(value)
            self.assertIs(caught.exception.value, value)


class IsTable(unittest.TestCase):
    """[22]: `is_table`."""

    def test_the_table_itself(self):
        for program in [HORN, MANY, one([]), one([("call", "f")]), one([("say", "a")])]:
            self.assertIs(is_table(program, table(program)), True)
            self.assertIs(is_table(value=table(program), program=program), True)

    def test_any_order_and_equal_ways(self):
        rows = [(function, cells, list(reversed(ways)) + ways) for function, cells, ways in reversed(table(MANY))]
        self.assertIs(is_table(MANY, rows), True)

    def test_nothing_can_go(self):
        for program in [HORN, MANY]:
            rows = table(program)
            for number, (function, cells, ways) in enumerate(rows):
                self.assertIs(is_table(program, rows[:number] + rows[number + 1:]), False)
                for other in range(len(ways)):
                    less = (function, cells, ways[:other] + ways[other + 1:])
                    self.assertIs(is_table(program, rows[:number] + [less] + rows[number + 1:]), False)

    def test_more_than_needed(self):
        rows = table(HORN)
        self.assertIs(is_table(HORN, rows + [("talk", [""], [])]), True)
        self.assertIs(is_table(HORN, rows + [("talk", [""], [("raise", [""]), ("end", [""])])]), True)
        more = [(row[0], row[1], row[2] + [("raise", [""] if row[1] == [""] else ["high"])]) for row in rows]
        self.assertIs(is_table(HORN, more), True)

    def test_more_ways_have_to_be_followed(self):
        rows = [("main", [""], []), ("talk", ["high"], [("end", ["high"])])]
        self.assertIs(is_table(HORN, rows + [("talk", ["low"], [("end", ["high"]), ("end", ["low"])])]), True)
        wide = [("talk", ["high"], [("end", ["high"]), ("end", ["low"])]), ("talk", ["low"], [("end", ["high"])])]
        self.assertIs(is_table(HORN, rows[:1] + wide), False)
        program = one([("guard", [("call", "g")]), ("call", "h")], more=[("g", []), ("h", [])], names=("a",))
        end = [("end", [""])]
        self.assertIs(is_table(program, [("f", [""], end), ("g", [""], end), ("h", [""], end)]), True)
        # As long as g never comes back in the table, it's none, though no call of h would be come to.
        self.assertIs(is_table(program, [("f", [""], []), ("g", [""], [])]), False)

    def test_rows_that_no_run_needs_have_to_hold_too(self):
        self.assertIs(is_table(HORN, table(HORN) + [("main", ["low"], [("end", ["low"])])]), True)
        self.assertIs(is_table(HORN, table(HORN) + [("main", ["low"], [])]), False)
        program = one([], more=[("g", [("call", "h")]), ("h", [])], names=("a",))
        rows = table(program)
        self.assertIs(is_table(program, rows + [("g", ["x"], [])]), False)
        self.assertIs(is_table(program, rows + [("g", ["x"], []), ("h", ["x"], [])]), False)
        self.assertIs(is_table(program, rows + [("g", ["x"], [("end", ["x"])]), ("h", ["x"], [("end", ["x"])])]), True)

    def test_recursion_may_be_told_to_come_back(self):
        program = one([("call", "f")], names=("a",))
        self.assertIs(is_table(program, [("f", [""], [])]), True)
        self.assertIs(is_table(program, [("f", [""], [("end", [""])])]), True)
        self.assertIs(is_table(program, [("f", [""], [("end", [""]), ("raise", [""])])]), True)

    def test_the_first_function_has_to_be_there(self):
        self.assertIs(is_table(HORN, []), False)
        self.assertIs(is_table(one([]), [("f", ["x", ""], [("end", ["x", ""])])]), False)

    def test_no_two_rows_of_the_same(self):
        row = ("f", ["", ""], [("end", ["", ""])])
        self.assertIs(is_table(one([]), [row]), True)
        self.assertIs(is_table(one([]), [row, row]), False)
        self.assertIs(is_table(one([]), [row, ("f", ["", ""], [])]), False)

    def test_bare_names_stay_bare(self):
        row = ("f", ["", ""], [("end", ["", ""]), ("end", ["x", ""])])
        self.assertIs(is_table(one([]), [row]), False)
        rows = [("f", ["", ""], [("end", ["", ""])]), ("f", ["x", "y"], [("end", ["x", "y"]), ("raise", ["x", ""])])]
        self.assertIs(is_table(one([]), rows), False)

    def test_values_of_every_kind(self):
        good = ("f", ["", ""], [("end", ["", ""])])
        program = one([])
        for value in values_with_programs() + [program]:
            for rows in self.spoiled(good, value):
                self.assertIs(is_table(program, rows), False)

    def spoiled(self, good, value):
        """Return values that are no tables because of another one within them."""
        found = [value, [value], [good, value], [good + (value,)], [good[:2]], [list(good)], (good,)]
        if value != "f":
            found.append([(value,) + good[1:]])
            found.append([good, (value, ["x", "x"], [("end", ["x", "x"])])])
        found += [[("f", value, good[2])], [("f", ["", ""], good[2] + [value])]]
        if value != "":
            found += [[("f", ["", value], good[2])], [("f", ["", ""], good[2] + [("end", ["", value])])]]
            found.append([good, ("f", ["x", value], [("end", ["x", value])])] if value != "x" else 0)
        found += [[("f", ["", ""], good[2] + [("end", value)])], [("f", ["", ""], good[2] + [("end", ["", ""], value)])]]
        if value not in ("end", "raise"):
            found.append([("f", ["", ""], good[2] + [(value, ["", ""])])])
        found.append([("f", ("", ""), good[2])])
        found.append([("f", ["", ""], tuple(good[2]))])
        found.append([("f", ["", ""], [["end", ["", ""]]])])
        found.append([("f", ["", ""], [("end", ("", ""))])])
        return found

    def test_the_value_stays(self):
        rows = [(function, cells, ways * 2) for function, cells, ways in table(MANY)]
        twin = [(function, list(cells), [(way, list(after)) for way, after in ways]) for function, cells, ways in rows]
        is_table(MANY, rows)
        self.assertEqual(rows, twin)

    def test_errors(self):
        for value in values_with_programs():
            with self.assertRaises(InvalidProgram) as caught:
                is_table(value, [])
            self.assertIs(caught.exception.value, value)


class Never(unittest.TestCase):
    """[22]: a step is never come to with cells if there is a table no row of which comes to it with them."""

    def test_calls_that_never_come_back(self):
        more = [("g", [("call", "h")]), ("h", [("guard", [("call", "g")])])]
        program = one([("guard", [("call", "g")]), ("say", "a")], more=more)
        self.assertEqual(met(program, at(1)), [])
        rows = [(function, ["", ""], []) for function in "fgh"]
        self.assertEqual(table(program), rows)
        self.assertEqual(step_at(program, at(1)), ("say", "a"))


if __name__ == "__main__":
    unittest.main()
