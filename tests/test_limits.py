"""[3]: the functions answer within seconds up to the limits."""

import time
import unittest
from itertools import product

from draw import held_and_set
from heldnames.asked import idle, muted, writers
from heldnames.begun import bare_from, begun, says_from
from heldnames.cells import is_table, met, run_to, table, ways_out
from heldnames.errors import InvalidText
from heldnames.library import Library
from heldnames.live import Live
from heldnames.pairs import first_unlike
from heldnames.programs import Program
from heldnames.runs import cells_of, holders_of, is_run, next_events, stack_of
from heldnames.spared import spared
from heldnames.taken import apart, gives, takes
from heldnames.texts import read_program, text_of
from test_against_plain import all_cells, all_places

SECONDS = 5


def one_of(step, other):
    return ("either", [step], [other])


def setting(names, worths, first, second):
    """Return a body of 12 steps that can set any name and call two functions, again and again."""
    last, worth = names[-1], worths[-1]
    steps = [
        one_of(("set", names[0], "x"), ("set", names[0], "y")),
        one_of(("set", names[1], "x"), ("set", last, worth)),
        one_of(("call", first), ("call", second)),
    ]
    return [("loop", steps), ("set", last, names[0]), ("call", second)]


def raising(names, worths, first, second):
    last, worth = names[-1], worths[-1]
    deep = ("hold", names[1], worth, [("either", [("call", second)], [("guard", [("call", first)])])])
    steps = [one_of(("hold", names[0], names[1], [("call", first)]), ("raise",)), ("set", last, names[0]), deep]
    return [("loop", [("guard", steps)])]


def holding(names, worths, first, second):
    last, worth = names[-1], worths[-1]
    deep = ("hold", last, "x", [("either", [("call", first)], [("set", names[0], worth)])])
    steps = [("hold", names[0], "x", [("hold", names[1], "y", [deep])]), ("guard", [("call", second)])]
    return [("loop", steps), ("hold", names[0], worth, [("hold", last, "y", [("call", second)])])]


def large_programs(kinds_of_cells=((["a", "b", "c"], ["x", "y"]), (["a", "b"], ["x", "y", "z"]))):
    """Return programs of four functions that call one another and themselves, with as many cells as may be."""
    found = []
    for names, worths in kinds_of_cells:
        for kinds in [(setting, raising, setting), (raising, raising, setting), (holding, setting, raising)]:
            bodies = [("f", holding(names, worths, "g", "h"))]
            for number, kind in enumerate(kinds):
                function, later = "ghi"[number], "hig"[number]
                bodies.append((function, kind(names, worths, function, later)))
            found.append(Program(names, worths, bodies))
    return found


def quiet_program():
    """Return a program in which no worth is ever told from another one, so that all pairs of cells can come."""
    def body(first, second, third, name, other):
        sets = [("set", name, "x"), ("set", other, name), one_of(("set", name, "y"), ("call", first))]
        holds = [("hold", name, other, [("hold", other, "y", [("call", second)])])]
        return [("loop", [("guard", [one_of(("call", third), ("raise",))] + sets)] + holds)]

    functions = [("f", body("g", "h", "i", "a", "b")), ("g", body("h", "i", "f", "b", "a"))]
    functions += [("h", body("i", "f", "g", "a", "b")), ("i", body("f", "g", "h", "b", "a"))]
    return Program(["a", "b"], ["x", "y"], functions)


def twelve_program():
    """Return a program with twelve holds and sets, three in each of four functions that call one another."""
    def body(first, second, name, other):
        sets = [("set", name, "x"), ("set", other, name)]
        return [("loop", [("guard", [one_of(("call", first), ("raise",)), ("hold", name, other, [("call", second)])] + sets)])]

    start = [("hold", "a", "x", [("hold", "b", "y", [("call", "g"), ("say", "a")])]), ("set", None, "x")]
    functions = [("f", start), ("g", body("h", "i", "a", "b") + [("set", "b", "y")])]
    functions += [("h", body("i", "g", "b", "a")), ("i", body("g", "h", "a", "b"))]
    return Program(["a", "b"], ["x", "y"], functions)


def endless_program():
    """Return a program in which a frame of the first function leaves, but only behind very many events."""
    # With a and b as digits, g and k count one on, and h calls g twelve times, up to the last number.
    last = ("when", "a", "y", [("hold", "a", "z", [("call", "h")])], [("hold", "a", "x", [("call", "k")])])
    count = [("when", "a", "x", [("hold", "a", "y", [("call", "h")])], [last])]
    ended = ("when", "b", "y", [("hold", "b", "z", [("call", "h")])], [("say", "b")])
    carry = [("when", "b", "x", [("hold", "b", "y", [("call", "h")])], [ended])]
    start = [("hold", "a", "x", [("hold", "b", "x", [("call", "h"), ("say", "a")])])]
    return Program(["a", "b"], ["x", "y", "z"], [("f", start), ("g", count), ("h", [("call", "g")] * 12), ("k", carry)])


def far_program():
    """Return a program whose first function tells what a and b are only behind far more events than may be asked for."""
    # With a and b as digits, h calls g eleven times, up to the last number.
    carry = ("when", "b", "x", [("hold", "a", "x", [("hold", "b", "y", [("call", "h")])])], [])
    count = [("when", "a", "x", [("hold", "a", "y", [("call", "h")])], [carry])]
    start = [("hold", "a", "x", [("hold", "b", "x", [("call", "h")])])]
    start += [("hold", "a", "a", [("say", "b")]), ("set", "b", "y")]
    functions = [("f", start), ("g", count), ("h", [("call", "g")] * 11 + [("say", "b")])]
    return Program(["a", "b"], ["x", "y"], functions)


class Limits(unittest.TestCase):
    def timed(self, call, *arguments):
        began = time.monotonic()
        told = call(*arguments)
        self.assertLess(time.monotonic() - began, SECONDS)
        return told

    def test_sizes(self):
        for program in large_programs():
            for function in ["g", "h", "i"]:
                many = len([place for place in all_places(program) if place[0] == function])
                self.assertTrue(10 <= many <= 12, many)
            self.assertEqual(len(all_cells(program)), 27 if len(program.names()) == 3 else 16)

    def test_large_programs(self):
        for program in large_programs():
            rows = self.timed(table, program)
            self.assertGreater(len(rows), 12)
            self.assertTrue(self.timed(is_table, program, rows))
            for place in all_places(program):
                for cells in self.timed(met, program, place)[-2:]:
                    run = self.timed(run_to, program, place, cells)
                    self.assertEqual(cells_of(program, run), cells)
            for cells in all_cells(program):
                self.timed(ways_out, program, "g", cells)

    def test_largest_table(self):
        for program in large_programs():
            rows = []
            for function, _ in program.functions():
                for cells in all_cells(program):
                    bare = [worth == "" for worth in cells]
                    fits = [after for after in all_cells(program) if [worth == "" for worth in after] == bare]
                    rows.append((function, cells, [(word, after) for word in ["end", "raise"] for after in fits] * 3))
            self.assertTrue(self.timed(is_table, program, rows))

    def test_ways_out_of_very_many_events(self):
        program = endless_program()
        self.assertEqual(self.timed(ways_out, program, "g", ["x", "x"]), [("end", ["x", "x"])])
        self.assertEqual(self.timed(ways_out, program, "f", ["", ""]), [("end", ["", ""])])
        self.assertEqual(len(self.timed(table, program)), 22)
        self.assertTrue(self.timed(is_table, program, table(program)))
        # Behind the first call of f there are far too many events, so no run to there is asked for.
        self.assertEqual(self.timed(met, program, ("f", (0, 0, 1))), [["x", "x"]])
        self.assertIsNone(self.timed(run_to, program, ("f", (0, 0, 1)), ["y", "x"]))
        self.assertEqual(self.timed(met, program, ("k", (0, 1, 0, 1, 0))), [["x", "z"]])
        self.assertEqual(len(self.timed(run_to, program, ("k", (0, 1, 0, 1, 0)), ["x", "z"])), 34)

    def test_who_is_asked(self):
        for program in large_programs():
            found = self.timed(idle, program)
            self.timed(muted, program, found)
            for place in all_places(program):
                for name in program.names():
                    self.timed(writers, program, place, name)

    def test_two_cells(self):
        for program in large_programs([(["a", "b"], ["x", "y"])]) + [quiet_program(), twelve_program()]:
            for function, _ in program.functions():
                self.timed(takes, program, function)
                self.timed(gives, program, function)
                for cells, other in product(all_cells(program), repeat=2):
                    self.timed(apart, program, function, cells, other)
        for function in "fghi":
            self.assertEqual(takes(quiet_program(), function), [])
            self.assertEqual(gives(quiet_program(), function), ["a", "b"])
            self.assertIsNone(apart(quiet_program(), function, ["x", "y"], ["y", "x"]))

    def test_programs_of_one_shape(self):
        program = twelve_program()
        many = [place for place, step in held_and_set(program) if step[1] is not None]
        self.assertEqual(len(many), 12)
        can_go = self.timed(spared, program)
        self.assertTrue(0 < len(can_go) < 12)
        for place in many:
            events = self.timed(first_unlike, program, muted(program, [place]))
            self.assertEqual(events is None, place in can_go)
        for program in large_programs([(["a", "b"], ["x", "y"])]) + [quiet_program()]:
            self.timed(spared, program)
            self.assertIsNone(self.timed(first_unlike, program, Program(["a", "b"], ["x", "y"], program.functions())))

    def test_goings_of_very_many_events(self):
        program = far_program()
        functions = program.functions()
        start = functions[0][1]
        # What makes a difference does so only behind far more events than may be asked for.
        self.assertEqual(self.timed(takes, program, "f"), ["b"])
        self.assertEqual(self.timed(gives, program, "f"), ["b"])
        self.assertIsNone(self.timed(apart, program, "f", ["x", "y"], ["y", "y"]))
        functions[0] = ("f", [("hold", "a", "x", [("hold", "b", "x", start)])])
        program = Program(["a", "b"], ["x", "y"], functions)
        self.assertEqual(self.timed(idle, program), [("f", (0, 0, 1)), ("f", (0, 0, 2))])
        self.assertEqual(self.timed(writers, program, ("f", (0, 0, 2)), "b"), [("f", (0, 0))])
        can_go = self.timed(spared, program)
        self.assertEqual(can_go, [("f", (0, 0, 0)), ("f", (0, 0, 0, 0)), ("f", (0, 0, 1)), ("f", (0, 0, 2))])
        self.assertIsNone(self.timed(first_unlike, program, muted(program, can_go)))

    def test_least_lists_of_3000_events(self):
        # Eleven calls of g, each of eleven calls of h, and then what has been held all the while.
        functions = [("g", [("call", "h")] * 11), ("h", [("set", None, "x")] * 12)]
        calls = [("call", "g")] * 10 + [("say", "a")]
        program = Program(["a", "b"], ["x", "y"], [("f", [("hold", "a", "x", calls)])] + functions)
        other = Program(["a", "b"], ["x", "y"], [("f", [("hold", "a", "y", calls)])] + functions)
        events = self.timed(first_unlike, program, other)
        self.assertEqual(len(events), 1 + 10 * (11 * 14 + 2) + 1)
        self.assertNotEqual(is_run(program, events), is_run(other, events))
        functions[1] = ("h", [("set", None, "x")] * 9 + [("call", "i")] * 3)
        functions.append(("i", [("set", None, "x")] * 2))
        program = Program(["a", "b"], ["x", "y"], [("f", [("call", "g")] * 11 + [("say", "a")])] + functions)
        events = self.timed(apart, program, "f", ["x", "x"], ["y", "x"])
        self.assertEqual(len(events), 11 * (11 * 23 + 2) + 1)
        self.assertTrue(2700 < len(events) <= 3000)
        self.assertEqual(self.timed(takes, program, "f"), ["a"])

    def test_runs_of_300_events(self):
        program = Program(["a", "b"], ["x", "y"], [("f", [("hold", "a", "x", [("either", [("call", "f")], [])])])])
        run = [("hold", ("f", (0,))), ("call", ("f", (0, 0, 0, 0)))] * 100 + [("hold", ("f", (0,)))]
        run += [("drop", ("f", (0,))), ("end", "f")] * 49 + [("drop", ("f", (0,)))]
        self.assertEqual(len(run), 300)
        self.assertTrue(self.timed(is_run, program, run))
        self.assertEqual(self.timed(next_events, program, run), [("end", "f")])
        self.assertEqual(self.timed(stack_of, program, run), ["f"] * 52)
        self.assertEqual(self.timed(holders_of, program, run), [("a", "x")] * 51)
        self.assertEqual(self.timed(cells_of, program, run), ["x", ""])

    def test_least_run_of_3000_events(self):
        # 11 calls of g, each of 11 calls of h, each of as many steps as fit.
        bodies = [("f", [("call", "g")] * 11 + [("say", "a")]), ("g", [("call", "h")] * 11)]
        bodies.append(("h", [("set", None, "x")] * 12))
        program = Program(["a"], ["x"], bodies)
        run = self.timed(run_to, program, ("f", (11,)), [""])
        self.assertEqual(len(run), 11 * (11 * 14 + 2))
        bodies[2] = ("h", [("set", None, "x")] * 9 + [("call", "i")] * 3)
        program = Program(["a"], ["x"], bodies + [("i", [("set", None, "x")] * 2)])
        run = self.timed(run_to, program, ("f", (11,)), [""])
        self.assertEqual(len(run), 11 * (11 * 23 + 2))
        self.assertTrue(2700 < len(run) < 3000)
        self.assertTrue(self.timed(is_run, program, run))
        self.assertEqual(self.timed(stack_of, program, run), ["f"])

    def test_deep_stack_in_a_least_run(self):
        # With each frame the names, as digits, count one on; only the last frame leaves, by a raise or by ends.
        count = ("when", "a", "x", [("set", "a", "y")], [("set", "a", "x"), ("when", "b", "x", [("set", "b", "y")], [
            ("set", "b", "x"), ("when", "c", "x", [("set", "c", "y")], [("raise",)])])])
        start = [("guard", [("call", "g")]), ("say", "a")]
        for name in ["a", "b", "c"]:
            start = [("hold", name, "x", start)]
        program = Program(["a", "b", "c"], ["x", "y"], [("f", start), ("g", [count, ("call", "g"), ("say", "a")])])
        run = self.timed(run_to, program, ("f", (0, 0, 0, 1)), ["x", "x", "y"])
        self.assertEqual(run[-1][0], "raise")
        self.assertEqual(run.count(("call", ("g", (1,)))), 7)
        self.assertIsNone(run_to(program, ("g", (2,)), ["x", "x", "x"]))

    def test_beginnings(self):
        for program in large_programs() + [quiet_program(), twelve_program(), endless_program()]:
            for function, _ in program.functions():
                for cells in all_cells(program):
                    said = self.timed(says_from, program, function, cells)
                    self.assertEqual(said, sorted(said))
                    self.timed(bare_from, program, function, cells)

    def test_begun(self):
        for names, worths in [(["a", "b", "c"], ["x", "y"]), (["a", "b"], ["x", "y", "z"])]:
            kinds = [("f", holding), ("g", setting), ("h", raising)]
            program = Program(names, worths, [(function, kind(names, worths, "g", "h")) for function, kind in kinds])
            for function, _ in program.functions():
                for cells in all_cells(program):
                    wider = self.timed(begun, program, function, cells)
                    self.assertEqual(wider.functions()[1:], program.functions())
                    self.timed(table, wider)

    def test_goings_of_3000_events_to_a_bare_name(self):
        bodies = [("f", [("call", "g")] * 11 + [("say", "a")]), ("g", [("call", "h")] * 11)]
        bodies.append(("h", [("set", None, "x")] * 9 + [("call", "i")] * 3))
        program = Program(["a"], ["x"], bodies + [("i", [("set", None, "x")] * 2)])
        events = self.timed(bare_from, program, "f", [""])
        self.assertEqual(len(events), 11 * (11 * 23 + 2) + 1)
        self.assertTrue(2700 < len(events) <= 3000)
        self.assertTrue(self.timed(is_run, program, events))
        self.assertIsNone(self.timed(bare_from, program, "f", ["x"]))
        self.assertEqual(self.timed(says_from, program, "f", ["x"]), [(("f", (11,)), "x")])

    def test_200_deeds_of_live_programs(self):
        for program in large_programs([(["a", "b"], ["x", "y"])]) + [quiet_program(), twelve_program()]:
            named = [place for place, step in held_and_set(program) if step[1] is not None]
            body = dict(program.functions())["g"]
            live = Live(program)
            began = time.monotonic()
            for number in range(100):
                place = named[number % len(named)]
                live.mute(place)
                live.rewrite(place[0], dict(program.functions())[place[0]])
            self.assertEqual(len(live.log()), 200)
            self.assertEqual(live.log()[-1][0], "rewrite")
            twin = live.copy()
            for _ in range(199):
                live.back()
            self.assertEqual(live.shown(), muted(program, named[:1]))
            self.assertLess(time.monotonic() - began, SECONDS)
            self.assertEqual(len(twin.log()), 200)
            live.back()
            self.assertEqual(live, twin)
            live.rewrite("g", body)
            self.assertEqual(self.timed(live.idle), idle(program))
            for place in all_places(program):
                self.assertEqual(self.timed(live.met, place), met(program, place))

    def test_texts_of_3000_signs(self):
        names, worths = ["abcdefgh", "bcdefghi"], ["cdefghij", "defghijk"]
        deep = [("say", "abcdefgh")]
        for _ in range(6):
            deep = [("when", "abcdefgh", "cdefghij", deep, [("set", None, "bcdefghi"), ("call", "function")])]
        program = Program(names, worths, [(function, deep) for function in ["function", "g", "h", "i"]])
        text = self.timed(text_of, program)
        self.assertTrue(1200 < len(text) < 3000, len(text))
        self.assertEqual(self.timed(read_program, text), program)
        self.assertEqual(self.timed(read_program, text + " " * (3000 - len(text))), program)
        self.assertEqual(self.timed(read_program, "\n" * (3000 - len(text)) + text), program)
        large = Program(["a"], ["x"], [("f", [("set", "a", "x")] * 360 + [("raise",)])])
        self.assertTrue(2900 < len(text_of(large)) <= 3000)
        self.assertEqual(self.timed(read_program, text_of(large)), large)
        head = "names a\nworths x\nfunction f"
        for sign in ["{", "}", "a", "_", " ", "\n", "{}", "loop{", "{ loop ", "either{}or{}", "say a "]:
            with self.assertRaises(InvalidText):
                self.timed(read_program, head + sign * (2970 // len(sign)))

    def test_texts_of_large_bodies(self):
        body = [("say", "a")] * 75
        for _ in range(11):
            body = [("hold", "a", "x", body)] + [("either", [], [("raise",)])] * 40
        program = Program(["a"], ["x"], [(function, body) for function in "fghi"])
        many = len(all_places(program))
        self.assertTrue(3800 < many <= 4000, many)
        text = self.timed(text_of, program)
        self.assertEqual(text.count("say a"), 300)
        self.assertEqual(text.count("{"), text.count("}"))

    def test_libraries(self):
        for program in large_programs() + [quiet_program(), twelve_program()]:
            library = Library(program)
            for name, cells in zip("abcdefgh", all_cells(program)[-8:]):
                self.timed(library.put, name, cells)
            quiet = self.timed(library.quiet)
            main = program.functions()[0][0]
            never = [name for name in library if bare_from(program, main, library.cells_of(name)) is None]
            self.assertEqual(quiet, never)
            if len(program.names()) == 2 and len(program.worths()) == 2:
                for cells in all_cells(program):
                    told = self.timed(library.alike, cells)
                    self.assertLessEqual({name for name in library if library.cells_of(name) == cells}, set(told))

    def test_libraries_and_very_many_events(self):
        program = far_program()
        library = Library(program)
        for name, cells in {"a": ["x", "y"], "b": ["", "y"], "c": ["y", "x"], "d": ["y", "y"], "e": ["x", ""]}.items():
            library.put(name, cells)
        self.assertEqual(self.timed(library.quiet), ["a", "c", "d"])
        for cells, wanted in [(["y", "y"], ["a", "d"]), (["x", "x"], ["c"]), (["", "x"], ["b"]), (["y", ""], ["e"])]:
            self.assertEqual(self.timed(library.alike, cells), wanted)
        self.assertEqual(self.timed(says_from, program, "f", ["x", "y"])[0], (("f", (1, 0)), "y"))

    def test_200_deeds_of_libraries(self):
        program = quiet_program()
        library = Library(program)
        began = time.monotonic()
        for name in "abcdefgh":
            library.put(name, ["x", "y"])
        for number in range(64):
            name = "abcdefgh"[number % 8]
            library.change(name, ["y", ""])
            library.drop(name)
            library.put(name, ["", "y"])
        self.assertEqual(len(library.log()), 200)
        twin = library.copy()
        self.assertEqual([len(library), len(twin.log())], [8, 200])
        for _ in range(200):
            library.back()
        self.assertEqual([library, library.log()], [Library(program), []])
        self.assertEqual([twin.names(), len(twin.log())], [list("abcdefgh"), 200])
        self.assertLess(time.monotonic() - began, SECONDS)


if __name__ == "__main__":
    unittest.main()
