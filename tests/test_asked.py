import unittest

from draw import values_with_programs
from heldnames.asked import idle, muted, writers
from heldnames.errors import InvalidItem, InvalidList, InvalidPlace, InvalidProgram, UnknownName
from heldnames.programs import Program, places
from test_cells import HORN, at, one
from test_programs import Caught, lists_in


class Writers(Caught):
    """[30]: `writers`."""

    def checks(self, body, path, name, wanted, more=()):
        """Check writers at a step of f; those wanted are paths of steps of f or whole places."""
        found = writers(one(body, more=more), at(*path), name)
        self.assertEqual(found, [place if isinstance(place[0], str) else at(*place) for place in wanted])

    def test_the_hold_itself(self):
        self.checks([("hold", "a", "x", [("say", "a")])], (0, 0), "a", [(0,)])
        self.checks([("hold", "a", "x", [("hold", "b", "a", [("say", "a")])])], (0, 0, 0), "b", [(0, 0)])

    def test_the_last_set(self):
        body = [("hold", "a", "x", [("set", "a", "y"), ("set", "a", "x"), ("say", "a")])]
        self.checks(body, (0, 0), "a", [(0,)])
        self.checks(body, (0, 1), "a", [(0, 0)])
        self.checks(body, (0, 2), "a", [(0, 1)])

    def test_a_set_of_the_same_worth(self):
        self.checks([("hold", "a", "x", [("set", "a", "x"), ("say", "a")])], (0, 1), "a", [(0, 0)])
        self.checks([("hold", "a", "x", [("set", "a", "a"), ("say", "a")])], (0, 1), "a", [(0, 0)])

    def test_a_set_in_a_called_function(self):
        body = [("hold", "a", "x", [("call", "g"), ("say", "a")])]
        self.checks(body, (0, 1), "a", [("g", (0,))], [("g", [("set", "a", "y")])])
        self.checks(body, (0, 1), "a", [("h", (0,))], [("g", [("call", "h")]), ("h", [("set", "a", "x")])])
        self.checks(body, (0, 1), "a", [(0,), ("g", (0, 0, 0))], [("g", [("either", [("set", "a", "x")], [])])])

    def test_a_called_function_comes_to_what_its_callers_gave(self):
        more = [("g", [("say", "a"), ("hold", "a", "x", [])])]
        body = [("hold", "a", "x", [("call", "g"), ("set", "a", "y"), ("call", "g")])]
        self.assertEqual(writers(one(body, more=more), ("g", (0,)), "a"), [at(0), at(0, 1)])
        self.assertEqual(writers(one(body, more=more), ("g", (1,)), "a"), [at(0), at(0, 1)])

    def test_an_older_holder_has_its_own_writer(self):
        body = [("hold", "a", "x",
            [("set", "a", "y"), ("hold", "a", "x", [("set", "a", "y"), ("say", "a")]), ("say", "a")])]
        self.checks(body, (0, 1, 0), "a", [(0, 1)])
        self.checks(body, (0, 1, 1), "a", [(0, 1, 0)])
        self.checks(body, (0, 2), "a", [(0, 0)])

    def test_an_older_holder_in_a_called_function(self):
        more = [("g", [("hold", "a", "y", [("set", "a", "x")])])]
        self.checks([("hold", "a", "x", [("call", "g"), ("say", "a")])], (0, 1), "a", [(0,)], more)
        more = [("g", [("hold", "a", "y", [("call", "h")]), ("call", "h")]), ("h", [("set", "a", "x")])]
        self.checks([("hold", "a", "x", [("call", "g"), ("say", "a")])], (0, 1), "a", [("h", (0,))], more)

    def test_a_hold_of_another_name_lets_sets_through(self):
        self.checks([("hold", "a", "x", [("hold", "b", "x", [("set", "a", "y")]), ("say", "a")])], (0, 1), "a",
            [(0, 0, 0)])
        self.checks([("hold", "a", "x", [("hold", None, "x", [("set", "a", "y")]), ("say", "a")])], (0, 1), "a",
            [(0, 0, 0)])
        self.checks([("hold", "a", "x", [("hold", "b", "x", [("set", "b", "y")]), ("say", "a")])], (0, 1), "a", [(0,)])

    def test_a_raise_to_a_guard(self):
        body = [("hold", "a", "x", [("guard", [("hold", "a", "y", [("set", "a", "x"), ("raise",)])]), ("say", "a")])]
        self.checks(body, (0, 1), "a", [(0,)])
        body = [("hold", "a", "x", [("guard", [("set", "a", "y"), ("raise",)]), ("say", "a")])]
        self.checks(body, (0, 1), "a", [(0, 0, 0)])
        body = [("hold", "a", "x", [("guard", [("hold", "b", "y", [("call", "g")])]), ("say", "a")])]
        self.checks(body, (0, 1), "a", [("g", (0,))], [("g", [("set", "a", "y"), ("hold", "a", "x", [("raise",)])])])

    def test_writers_belong_to_the_ways_out(self):
        """What a called function is left with tells whether it has set the name, through further calls, too."""
        ends = [("g", [("either", [("set", "a", "y")], [])])]
        raises = [("g", [("either", [("set", "a", "y"), ("raise",)], [("raise",)])])]
        split = [("when", "a", "y", [("say", "a")], [("say", "a")])]
        for called in ["g", "h", "i"]:
            later = [("h", [("call", "g")]), ("i", [("hold", "b", "x", [("call", "h")])])]
            for more, within in [(ends, [("call", called)]), (raises, [("guard", [("call", called)])])]:
                body = [("hold", "a", "x", within + split)]
                self.checks(body, (0, 1, 0, 0), "a", [("g", (0, 0, 0))], more + later)
                self.checks(body, (0, 1, 1, 0), "a", [(0,)], more + later)

    def test_loops_are_come_to_again(self):
        body = [("hold", "a", "x", [("loop", [("set", "a", "y")]), ("say", "a")])]
        for path in [(0, 0), (0, 0, 0), (0, 1)]:
            self.checks(body, path, "a", [(0,), (0, 0, 0)])

    def test_recursion(self):
        self.assertEqual(writers(HORN, ("talk", (0, 1, 0)), "tone"), [("talk", (0, 0, 0))])
        more = [("g",
            [("say", "a"), ("either", [("hold", "a", "y", [("call", "g")])], []), ("say", "a"), ("set", "a", "y")])]
        program = one([("hold", "a", "x", [("call", "g"), ("say", "a")])], more=more)
        self.assertEqual(writers(program, ("g", (0,)), "a"), [at(0), ("g", (1, 0, 0))])
        self.assertEqual(writers(program, ("g", (2,)), "a"), [at(0), ("g", (1, 0, 0))])
        self.assertEqual(writers(program, at(0, 1), "a"), [("g", (3,))])
        # A function that never ends hands nothing back.
        program = one([("hold", "a", "x", [("call", "g"), ("say", "a")])],
            more=[("g", [("set", "a", "y"), ("call", "g")])])
        self.assertEqual(writers(program, ("g", (0,)), "a"), [at(0), ("g", (0,))])
        self.assertEqual(writers(program, at(0, 1), "a"), [])

    def test_bare_names_and_steps_never_come_to(self):
        self.checks([("say", "a")], (0,), "a", [])
        self.checks([("hold", "a", "x", [("say", "a")])], (0, 0), "b", [])
        self.checks([("hold", "a", "x", []), ("say", "a")], (1,), "a", [])
        self.checks([("hold", "a", "x", [("raise",), ("say", "a")])], (0, 1), "a", [])
        self.checks([("set", "a", "x"), ("say", "a")], (1,), "a", [])
        self.assertEqual(writers(one([], more=[("g", [("hold", "a", "x", [("say", "a")])])]), ("g", (0, 0)), "a"), [])

    def test_bare_by_one_call_and_held_by_another_one(self):
        program = one([("call", "g"), ("hold", "a", "x", [("call", "g")])],
            more=[("g", [("either", [("say", "a")], [])])])
        self.assertEqual(writers(program, ("g", (0,)), "a"), [at(1)])

    def test_each_kind_of_step_may_be_asked_about(self):
        steps = [("set", "b", "a"), ("say", "a"), ("call", "f"), ("either", [], []), ("loop", []), ("guard", [])]
        steps += [("when", "a", "x", [], []), ("raise",), ("hold", "b", "x", [])]
        for step in steps:
            self.checks([("hold", "a", "x", [step])], (0, 0), "a", [(0,)])
        # At a hold the holder that it brings isn't there yet.
        self.checks([("hold", "a", "x", [("hold", "a", "y", [])])], (0, 0), "a", [(0,)])
        self.checks([("hold", "a", "x", [])], (0,), "a", [])

    def test_holds_and_sets_of_none_give_nothing(self):
        body = [("hold", "a", "x", [("set", None, "y"), ("hold", None, "a", [("say", "a")])])]
        self.checks(body, (0, 1, 0), "a", [(0,)])

    def test_order(self):
        """By the names of the functions, not by their order, and then by the paths."""
        halves = ("either", [("call", "b")], [("set", "a", "y")])
        functions = [("g", [("hold", "a", "x", [("loop", [halves]), ("say", "a")])]), ("b", [("set", "a", "x")])]
        program = Program(["a"], ["x", "y"], functions)
        wanted = [("b", (0,)), ("g", (0,)), ("g", (0, 0, 0, 1, 0))]
        self.assertEqual(writers(program, ("g", (0, 1)), "a"), wanted)
        # Paths are in the order of numbers.
        others = [("set", None, "x")] * 7
        either = [("either", [("set", "a", "x"), ("raise",)], []), ("set", None, "x")]
        body = [("guard", either + others + [("either", [("set", "a", "y"), ("raise",)], [])] * 2)]
        wanted = [(0,), (0, 0, 0, 0, 0), (0, 0, 9, 0, 0), (0, 0, 10, 0, 0)]
        self.checks([("hold", "a", "x", body + [("say", "a")])], (0, 1), "a", wanted)

    def test_errors(self):
        for value in values_with_programs():
            self.raises(InvalidProgram, value, writers, value, "no place", "no name")
        for value in values_with_programs() + [HORN, ("main", (2,)), ["main", (0,)], ("talk", (0, 0)),
            ("main", (False,))]:
            self.raises(InvalidPlace, value, writers, HORN, value, "no name")
        for value in values_with_programs() + [HORN, "low", "main", ("tone",), ["tone"]]:
            self.raises(UnknownName, value, writers, HORN, ("main", (0,)), value)
        body = [("hold", "a", "x", [("either", [], [("say", "a")])])]
        self.raises(InvalidPlace, ("f", (0, 0, True, 0)), writers, one(body), ("f", (0, 0, True, 0)), "a")
        self.raises(InvalidPlace, ("f", (False,)), writers, one(body), ("f", (False,)), "a")
        self.assertEqual(writers(name="a", place=("f", (0, 0, 1, 0)), program=one(body)), [at(0)])

    def test_results_are_new(self):
        for _ in range(2):
            told = writers(HORN, ("talk", (0,)), "tone")
            self.assertEqual(told, [("main", (0,)), ("talk", (0, 0, 0))])
            told.clear()


class Idle(Caught):
    """[31]: `idle`."""

    def checks(self, body, wanted, more=()):
        """Check the idle ones; those wanted are paths of steps of f or whole places."""
        found = idle(one(body, more=more))
        self.assertEqual(found, [place if isinstance(place[0], str) else at(*place) for place in wanted])

    def test_who_asks_a_hold(self):
        self.checks([("hold", "a", "x", [])], [(0,)])
        # With a bare b a step asks a nevertheless; a step of which nothing is asked but b does not.
        steps = [("say", "a"), ("when", "a", "x", [], []), ("set", "a", "x"), ("set", None, "a"),
            ("hold", None, "a", [])]
        steps += [("set", "b", "a"), ("set", "a", "b"), ("set", "a", "a"), ("hold", "b", "a", [("say", "b")])]
        for step in steps:
            self.assertNotIn(at(0), idle(one([("hold", "a", "x", [step])])), step)
        for step in [("say", "b"), ("set", "b", "x"), ("set", None, "b"), ("set", None, "x"),
            ("when", "b", "x", [], [])]:
            self.assertIn(at(0), idle(one([("hold", "a", "x", [step])])), step)

    def test_who_asks_a_set(self):
        steps = [("say", "a"), ("when", "a", "x", [], []), ("set", None, "a"), ("hold", None, "a", []),
            ("set", "b", "a")]
        for step in steps + [("set", "a", "a"), ("hold", "a", "a", []), ("hold", "b", "a", [])]:
            self.assertNotIn(at(0, 0), idle(one([("hold", "a", "x", [("set", "a", "y"), step])])), step)
        # A set asks for a holder of its name, but not for its worth.
        for step in [("set", "a", "x"), ("set", "a", "b"), ("set", None, "x"), ("say", "b"),
            ("hold", "a", "x", [("say", "a")])]:
            self.assertIn(at(0, 0), idle(one([("hold", "a", "x", [("set", "a", "y"), step])])), step)

    def test_a_set_that_comes_to_nothing_may_keep_its_hold(self):
        program = one([("hold", "a", "x", [("set", "a", "y")])])
        self.assertEqual(idle(program), [at(0, 0)])
        self.assertEqual(idle(muted(program, [at(0, 0)])), [at(0)])

    def test_a_chain(self):
        body = [("hold", "a", "x", [("hold", "b", "a", [("set", "b", "x"), ("set", "a", "b")])])]
        program = one(body)
        rounds = []
        while idle(program):
            rounds.append(idle(program))
            program = muted(program, idle(program))
        self.assertEqual(rounds, [[at(0, 0, 1)]])
        # The source of the muted set is asked, as before.
        self.assertEqual(program,
            one([("hold", "a", "x", [("hold", "b", "a", [("set", "b", "x"), ("set", None, "b")])])]))

    def test_a_set_that_is_come_to_with_its_name_bare(self):
        self.checks([("set", "a", "x")], [])
        self.checks([("set", "a", "b")], [])
        self.checks([("call", "g"), ("hold", "a", "x", [("call", "g")])], [(1,)], [("g", [("set", "a", "x")])])
        # By one call its name is held, by the other one it's bare.
        body = [("hold", "a", "x", [("call", "g")]), ("call", "g")]
        self.checks(body, [], [("g", [("set", "a", "x")])])
        self.checks(body[:1], [("g", (0,))], [("g", [("set", "a", "x")])])

    def test_never_come_to(self):
        self.checks([("raise",), ("hold", "a", "x", [("say", "a"), ("set", "a", "x")])], [(1,), (1, 1)])
        self.checks([], [("g", (0,)), ("g", (0, 0))], [("g", [("hold", "a", "x", [("set", "a", "y"), ("say", "a")])])])
        self.checks([("call", "f"), ("set", "a", "x")], [(1,)])
        self.checks([("hold", "a", "x", [("say", "b"), ("say", "a")])], [(0,)])

    def test_holds_and_sets_of_none_are_no_idle_ones(self):
        self.checks([("hold", None, "x", [("set", None, "y")])], [])

    def test_newest_holders(self):
        self.checks([("hold", "a", "x", [("hold", "a", "y", [("say", "a")])])], [(0,)])
        self.checks([("hold", "a", "x", [("hold", "a", "y", [("say", "a")]), ("say", "a")])], [])
        self.checks([("hold", "a", "x", [("hold", "a", "y", []), ("say", "a")])], [(0, 0)])
        # The inner hold asks the outer one for its worth.
        self.checks([("hold", "a", "x", [("hold", "a", "a", [])])], [(0, 0)])
        self.checks([("hold", "a", "x", [("set", "a", "y"), ("hold", "a", "x", [("say", "a")])])], [(0, 0)])
        self.checks([("hold", "a", "x", [("hold", "a", "x", [("set", "a", "y")]), ("say", "a")])], [(0, 0, 0)])

    def test_overwritten(self):
        self.checks([("hold", "a", "x", [("set", "a", "y"), ("set", "a", "x"), ("say", "a")])], [(0, 0)])
        body = [("hold", "a", "x", [("set", "a", "y"), ("either", [("set", "a", "x")], []), ("say", "a")])]
        self.checks(body, [])
        body = [("hold", "a", "x", [("set", "a", "y"), ("call", "g"), ("say", "a")])]
        self.checks(body, [(0, 0)], [("g", [("set", "a", "x")])])
        self.checks(body, [], [("g", [("loop", [("set", "a", "x")])])])

    def test_raises(self):
        self.checks([("hold", "a", "x", [("guard", [("set", "a", "y"), ("raise",)]), ("say", "a")])], [])
        self.checks([("hold", "a", "x", [("guard", [("hold", "a", "y", [("raise",)])]), ("say", "a")])], [(0, 0, 0)])
        self.checks([("hold", "a", "x", [("set", "a", "y"), ("raise",), ("say", "a")])], [(0, 0)])

    def test_recursion(self):
        self.assertEqual(idle(HORN), [])
        more = [("g", [("set", "a", "y"), ("hold", "b", "x", [("call", "g")]), ("say", "a")])]
        self.checks([("hold", "a", "x", [("call", "g")])], [("g", (0,)), ("g", (1,))], more)

    def test_order(self):
        functions = [("g", [("hold", "a", "x", [("call", "b")])]), ("b", [("set", "a", "x")] * 12),
            ("a", [("hold", "a", "a", [])])]
        wanted = [("a", (0,))] + [("b", (number,)) for number in range(12)]
        self.assertEqual(idle(Program(["a"], ["x"], functions)), wanted)

    def test_errors(self):
        for value in values_with_programs():
            self.raises(InvalidProgram, value, idle, value)
        self.assertEqual(idle(program=one([])), [])


class Muted(Caught):
    """[32]: `muted`."""

    def test_steps_at_each_depth(self):
        inner = [("set", "a", "x"), ("hold", "b", "a", [("set", "b", "y")])]
        gone = [("set", None, "x"), ("hold", None, "a", [("set", None, "y")])]
        some = [("set", "a", "x"), ("hold", None, "a", [("set", "b", "y")])]

        def program(first, second, third, fourth, fifth):
            body = [("either", first, second), ("loop", [("guard", [("when", "a", "x", third, fourth)])])]
            return one(body + [("hold", "a", "x", fifth)], more=[("g", first), ("h", fourth)])

        whole = program(inner, inner, inner, inner, inner)
        every = sorted(places(whole, "hold") + places(whole, "set"))
        none = muted(whole, every)
        self.assertEqual(none, Program(["a", "b"], ["x", "y"], [
            (function, body[:2] + [("hold", None, "x", gone)] if function == "f" else body)
            for function, body in program(gone, gone, gone, gone, gone).functions()
        ]))
        self.assertEqual(muted(whole, [at(0, 1, 1), at(1, 0, 0, 0, 1)]), Program(["a", "b"], ["x", "y"], [
            ("f", program(inner, some, some, inner, inner).functions()[0][1]), ("g", inner), ("h", inner),
        ]))
        self.assertEqual(muted(whole, [("h", (1,))]).functions()[2], ("h", some))
        self.assertEqual(muted(whole, [("h", (1,))]).functions()[:2], whole.functions()[:2])

    def test_none_at_all(self):
        self.assertEqual(muted(HORN, []), HORN)
        self.assertEqual(muted(places=[], program=one([])), one([]))

    def test_muted_ones_may_be_muted_again(self):
        program = one([("hold", None, "x", [("set", None, "a"), ("set", "a", "x")])])
        self.assertEqual(muted(program, [at(0), at(0, 0)]), program)
        wanted = one([("hold", None, "x", [("set", None, "a"), ("set", None, "x")])])
        self.assertEqual(muted(program, [at(0, 1), at(0)]), wanted)

    def test_arguments_stay(self):
        before = HORN.functions()
        chosen = [("talk", (0, 0, 0)), ("main", (0,))]
        other = muted(HORN, chosen)
        self.assertNotEqual(other, HORN)
        self.assertEqual(HORN.functions(), before)
        self.assertEqual(chosen, [("talk", (0, 0, 0)), ("main", (0,))])
        for value in lists_in(other.functions()):
            value.clear()
        self.assertEqual(other.functions()[0], ("main", [("hold", None, "low", [("call", "talk")]), ("say", "tone")]))

    def test_items(self):
        good = ("main", (0,))
        bad = [("main", (1,)), ("main", (0, 0)), ("talk", (0,)), ("main", (2,)), ["main", (0,)], ("main", [0]),
            ("main", (False,))]
        for value in values_with_programs() + bad:
            self.raises(InvalidItem, value, muted, HORN, [value])
            self.raises(InvalidItem, value, muted, HORN, [good, value, good])
            self.raises(InvalidItem, value, muted, HORN, [value, good, good, "more"])
        twin = ("main", tuple([0]))
        self.raises(InvalidItem, twin, muted, HORN, [good, ("talk", (0, 0, 0)), twin, "more"])
        program = one([("either", [], [("set", "a", "x")])])
        value = ("f", (False, 1, 0))
        self.raises(InvalidItem, value, muted, program, [value])
        value = at(0)
        self.raises(InvalidItem, value, muted, program, [at(0, 1, 0), value])

    def test_errors(self):
        for value in values_with_programs():
            self.raises(InvalidProgram, value, muted, value, "no list")
            if not isinstance(value, list):
                self.raises(InvalidList, value, muted, HORN, value)
        self.raises(InvalidList, (("main", (0,)),), muted, HORN, (("main", (0,)),))
        self.raises(InvalidList, HORN, muted, HORN, HORN)


if __name__ == "__main__":
    unittest.main()
