import unittest

from draw import values_with_programs
from heldnames.asked import muted
from heldnames.errors import InvalidProgram
from heldnames.pairs import first_unlike
from heldnames.programs import Program, places
from heldnames.runs import is_run
from heldnames.spared import spared
from test_cells import HORN, at, one
from test_programs import Caught


class Pairs(Caught):
    def unlike(self, body, other, many, more=(), more_other=None):
        """Check that two programs have unlike runs, the first of them with as many events,
            or the same ones for None."""
        program = one(body, more=more)
        twin = one(other, more=more if more_other is None else more_other)
        for first, second in [(program, twin), (twin, program)]:
            events = first_unlike(first, second)
            if many is None:
                self.assertIsNone(events)
            else:
                self.assertEqual(len(events), many)
                self.assertNotEqual(is_run(first, events), is_run(second, events))


class FirstUnlike(Pairs):
    """[45]: `first_unlike`."""

    def test_equal_programs(self):
        self.assertIsNone(first_unlike(HORN, HORN))
        self.assertIsNone(first_unlike(HORN, Program(HORN.names(), HORN.worths(), HORN.functions())))
        self.unlike([], [], None)

    def test_unlike_worths(self):
        self.unlike([("hold", "a", "x", [("say", "a")])], [("hold", "a", "y", [("say", "a")])], 2)
        self.unlike([("hold", "a", "x", [("say", "b")])], [("hold", "a", "y", [("say", "b")])], None)
        self.unlike([("hold", "a", "x", [("set", "a", "y"), ("say", "a")])],
            [("hold", "a", "y", [("set", "a", "a"), ("say", "a")])], None)
        self.unlike([("hold", "a", "x", [("set", "a", "y"), ("say", "a")])],
            [("hold", "a", "y", [("set", "a", "x"), ("say", "a")])], 3)

    def test_unlike_names(self):
        self.unlike([("hold", "a", "x", [])], [("hold", "b", "x", [])], None)
        self.unlike([("hold", "a", "x", [])], [("hold", None, "y", [])], None)
        self.unlike([("hold", "a", "x", [("say", "b")])], [("hold", "b", "x", [("say", "b")])], 2)
        self.unlike([("hold", "a", "x", [("say", "b")])], [("hold", None, "y", [("say", "b")])], None)
        body = [("hold", "a", "x", [("set", "a", "y"), ("say", "a")])]
        self.unlike(body, [("hold", "a", "y", [("set", None, "y"), ("say", "a")])], None)

    def test_each_restores_its_own_name(self):
        def body(name, said):
            return [("hold", "a", "x",
                [("hold", "b", "x", [("hold", name, "y", [("set", name, "x")]), ("say", said)])])]

        for said in ["a", "b"]:
            self.unlike(body("a", said), body("b", said), None)

        def inner(name, setting):
            within = [("hold", name, "y", [("set", setting, "y")]), ("say", "a"), ("say", "b")]
            return [("hold", "a", "x", [("hold", "b", "x", within)])]

        self.unlike(inner("a", "a"), inner("b", "b"), None)
        self.unlike(inner("a", "a"), inner("a", "b"), 7)
        self.unlike(inner("a", "b"), inner("b", "b"), 7)
        self.unlike(inner("a", "b"), inner("b", "a"), 6)
        self.unlike(inner("a", "a"), inner(None, "a"), 6)

    def test_raises_restore_each_its_own(self):
        def body(name, source):
            within = [("guard", [("hold", name, source, [("call", "g")])]), ("say", "a"), ("say", "b")]
            return [("hold", "a", "x", [("hold", "b", "x", within)])]

        more = [("g", [("set", "a", "y"), ("raise",)])]
        # hold, hold, hold, call, set, raise, say
        self.unlike(body("a", "x"), body("b", "x"), 7, more)
        self.unlike(body("a", "x"), body("a", "y"), None, more)
        self.unlike(body("a", "x"), body("b", "x"), None, more, [("g", [("set", "b", "y"), ("raise",)])])

    def test_a_bare_that_comes_earlier_or_not_at_all(self):
        # With the set muted it's the say that is bare, one step later.
        self.unlike([("set", "a", "x"), ("say", "a")], [("set", None, "x"), ("say", "a")], 1)
        self.unlike([("set", "a", "x")], [("set", None, "x")], 1)
        self.unlike([("set", "a", "x")], [("set", "a", "b")], None)
        self.unlike([("set", "a", "x")], [("set", "b", "y")], None)
        self.unlike([("set", None, "a")], [("set", None, "x")], 1)
        self.unlike([("hold", None, "a", [])], [("hold", None, "b", [])], None)

    def test_nothing_comes_behind_a_bare(self):
        def body(worth):
            return [("hold", "a", worth, [("say", "b"), ("say", "a")])]

        self.unlike(body("x"), body("y"), None)

    def test_steps_that_no_run_comes_to(self):
        self.unlike([("raise",), ("set", "a", "x")], [("raise",), ("set", None, "y")], None)
        self.unlike([("call", "f"), ("hold", "a", "x", [("say", "a")])],
            [("call", "f"), ("hold", "a", "b", [("say", "a")])], None)
        self.unlike([], [], None, [("g", [("hold", "a", "x", [("say", "a")])])],
            [("g", [("hold", None, "y", [("say", "a")])])])

    def test_as_few_events_as_possible(self):
        def body(worth):
            far = [("set", None, "x")] * 4 + [("say", "a")]
            near = [("call", "g"), ("say", "a")]
            return [("hold", "a", worth, [("either", far, near)])]

        self.unlike(body("x"), body("y"), 4, [("g", [])])
        self.unlike(body("x"), body("y"), 5, [("g", [("set", None, "y")])])
        self.unlike(body("x"), body("y"), 6, [("g", [("hold", None, "y", [])])])
        self.unlike(body("x"), body("y"), 6, [("g", [("hold", None, "y", [("set", "b", "x")])])])
        self.unlike(body("x"), body("y"), 6, [("g", [("call", "g")])])

    def test_recursion_without_end(self):
        def body(worth, last=()):
            return [("hold", "a", worth, [("hold", "b", worth, [("call", "f")])])] + list(last)

        self.unlike(body("x"), body("y"), None)
        self.unlike(body("x", [("say", "a")]), body("y", [("say", "a")]), None)

    def test_programs_that_do_not_fit(self):
        body = [("hold", "a", "x", [("either", [("say", "a")], [("set", "a", "x")])]),
            ("when", "a", "x", [], [("call", "g")])]
        program = one(body, more=[("g", [])])
        within = [("either", [("say", "b")], [("set", "a", "x")])]
        bad = [
            one(body, names=("a",), more=[("g", [])]), one(body, names=("b", "a"), more=[("g", [])]),
            one(body, names=("a", "b", "c"), more=[("g", [])]), one(body, worths=("y", "x"), more=[("g", [])]),
            one(body, worths=("x",), more=[("g", [])]), one(body, worths=("x", "y", "z"), more=[("g", [])]),
            one(body, more=[("g", []), ("h", [])]), one(body, more=[("g", [("raise",)])]),
            Program(["a", "b"], ["x", "y"], [("g", []), ("f", body)]), one([], more=[("g", body)]),
            one(body + [("raise",)], more=[("g", [])]), one(body[:1], more=[("g", [])]),
            one(body[:1] + [("when", "b", "x", [], [("call", "g")])], more=[("g", [])]),
            one(body[:1] + [("when", "a", "y", [], [("call", "g")])], more=[("g", [])]),
            one(body[:1] + [("when", "a", "x", [], [("call", "f")])], more=[("g", [])]),
            one(body[:1] + [("when", "a", "x", [("call", "g")], [])], more=[("g", [])]),
            one(body[:1] + [("either", [], [("call", "g")])], more=[("g", [])]),
            one([("hold", "a", "x", within), body[1]], more=[("g", [])]),
            one([("hold", "a", "x", [("either", [("set", "a", "x")], [("say", "a")])]), body[1]], more=[("g", [])]),
            one([("hold", "a", "x", [("either", [("say", "a")], [("hold", "a", "x", [])])]), body[1]],
                more=[("g", [])]),
            one([("hold", "a", "x", [("either", [("say", "a")], [])]), body[1]], more=[("g", [])]),
            one([("loop", body[0][3]), body[1]], more=[("g", [])]),
                one([("set", "a", "x"), body[1]], more=[("g", [])]), HORN,
        ]
        for other in bad:
            self.raises(InvalidProgram, other, first_unlike, program, other)
            self.raises(InvalidProgram, program, first_unlike, other, program)
        fitting = [("hold", None, "b", [("either", [("say", "a")], [("set", "b", "y")])]), body[1]]
        self.assertIsNotNone(first_unlike(program, one(fitting, more=[("g", [])])))

    def test_guards_and_loops_are_told_apart(self):
        for word, other in [("guard", "loop"), ("loop", "guard")]:
            self.raises(InvalidProgram, value := one([(other, [])]), first_unlike, one([(word, [])]), value)

    def test_errors(self):
        for value in values_with_programs():
            self.raises(InvalidProgram, value, first_unlike, value, "no program")
            self.raises(InvalidProgram, value, first_unlike, HORN, value)
        self.assertIsNone(first_unlike(other=one([]), program=one([])))

    def test_results_are_new(self):
        other = muted(HORN, [("main", (0,))])
        for _ in range(2):
            events = first_unlike(HORN, other)
            self.assertEqual(len(events), 3)
            events.clear()
        self.assertEqual(other, muted(HORN, [("main", (0,))]))


class Spared(Pairs):
    """[40]: `spared`."""

    def checks(self, body, wanted, more=()):
        program = one(body, more=more)
        found = spared(program)
        self.assertEqual(found, [place if isinstance(place[0], str) else at(*place) for place in wanted])
        for place in places(program, "hold") + places(program, "set"):
            if place in found:
                self.assertIsNone(first_unlike(program, muted(program, [place])))

    def test_what_can_go(self):
        self.checks([], [])
        self.checks([("hold", "a", "x", [])], [(0,)])
        self.checks([("hold", "a", "x", [("say", "a")])], [])
        self.checks([("hold", "a", "x", [("set", "a", "y"), ("say", "a")])], [])
        self.checks([("hold", "a", "x", [("set", "a", "x"), ("say", "a")])], [(0, 0)])
        self.checks([("hold", "a", "x", [("set", "a", "a"), ("say", "a")])], [(0, 0)])

    def test_holds_of_the_worth_that_is_held_already(self):
        inner = [("hold", "a", "x", [("say", "a")]), ("say", "a")]
        self.checks([("hold", "a", "x", inner)], [(0, 0)])
        self.checks([("hold", "a", "y", inner)], [])
        # Once the inner one is set, what it covers counts.
        inner = [("hold", "a", "x", [("set", "a", "y")]), ("say", "a")]
        self.checks([("hold", "a", "x", inner)], [(0, 0, 0)])

    def test_each_alone_but_not_together(self):
        body = [("hold", "a", "x", [("set", "a", "y"), ("set", "a", "y"), ("say", "a")])]
        self.checks(body, [(0, 0), (0, 1)])
        program = one(body)
        self.assertIsNotNone(first_unlike(program, muted(program, [at(0, 0), at(0, 1)])))

    def test_a_bare_is_a_change(self):
        self.checks([("set", "a", "x")], [])
        self.checks([("set", "a", "x"), ("say", "a")], [])
        # The source is bare, too, and is asked anyway.
        self.checks([("set", "a", "b")], [(0,)])
        self.checks([("hold", "a", "x", [("set", "a", "b")])], [(0,), (0, 0)])
        self.checks([("hold", "a", "b", [])], [(0,)])

    def test_never_come_to(self):
        self.checks([("raise",), ("set", "a", "x"), ("hold", "a", "x", [("say", "a")])], [(1,), (2,)])
        self.checks([], [("g", (0,))], [("g", [("set", "a", "x")])])
        self.checks([("call", "f"), ("hold", "a", "x", [("say", "a")])], [(1,)])

    def test_muted_ones_are_not_told(self):
        self.checks([("set", None, "x"), ("hold", None, "x", [("set", None, "y"), ("raise",)])], [])

    def test_recursion(self):
        self.assertEqual(spared(HORN), [])
        # What is said is y from the second call on, whatever is set.
        more = [("g", [("set", "a", "y"), ("say", "a"), ("call", "g")])]
        self.checks([("hold", "a", "y", [("call", "g")])], [("g", (0,))], more)
        self.checks([("hold", "a", "x", [("call", "g")])], [], more)

    def test_order(self):
        functions = [("g", [("hold", "a", "x", [("call", "b")])]), ("b", [("set", "a", "x")] * 10)]
        functions.append(("a", [("hold", "a", "a", [])]))
        wanted = [("a", (0,))] + [("b", (number,)) for number in range(10)]
        self.assertEqual(spared(Program(["a"], ["x"], functions)), wanted)

    def test_errors(self):
        for value in values_with_programs():
            self.raises(InvalidProgram, value, spared, value)
        for _ in range(2):
            told = spared(program=one([("hold", "a", "x", [])]))
            self.assertEqual(told, [at(0)])
            told.clear()


if __name__ == "__main__":
    unittest.main()
