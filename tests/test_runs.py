import random
import unittest

from draw import drawn_program, values_with_programs
from heldnames.errors import InvalidProgram, InvalidRun
from heldnames.programs import Program
from heldnames.runs import cells_of, holders_of, is_run, next_events, stack_of
from plain import Plain


def one(body, names=("a", "b"), worths=("x", "y"), more=()):
    return Program(list(names), list(worths), [("f", body)] + list(more))


def at(*path):
    return ("f", path)


class Events(unittest.TestCase):
    """[15]: which events come, and what they do."""

    def led(self, program, run):
        """Return what is told of a run, after checking it event by event."""
        for number in range(len(run)):
            self.assertIn(run[number], next_events(program, run[:number]))
        self.assertIs(is_run(program, run), True)
        return stack_of(program, run), holders_of(program, run), cells_of(program, run), next_events(program, run)

    def test_empty_body(self):
        self.assertEqual(self.led(one([]), []), (["f"], [], ["", ""], [("end", "f")]))
        self.assertEqual(self.led(one([]), [("end", "f")]), ([], [], ["", ""], []))
        self.assertFalse(is_run(one([]), [("end", "f"), ("end", "f")]))

    def test_hold_and_drop(self):
        program = one([("hold", "b", "y", [("hold", "b", "x", []), ("hold", "a", "b", [])])])
        run = [("hold", at(0)), ("hold", at(0, 0)), ("drop", at(0, 0)), ("hold", at(0, 1)), ("drop", at(0, 1))]
        run += [("drop", at(0)), ("end", "f")]
        told = [self.led(program, run[:number])[1:3] for number in range(8)]
        self.assertEqual(told[0], ([], ["", ""]))
        self.assertEqual(told[1], ([("b", "y")], ["", "y"]))
        self.assertEqual(told[2], ([("b", "y"), ("b", "x")], ["", "x"]))
        self.assertEqual(told[3], told[1])
        self.assertEqual(told[4], ([("b", "y"), ("a", "y")], ["y", "y"]))
        self.assertEqual(told[5:], [told[1], told[0], told[0]])

    def test_hold_of_none(self):
        program = one([("hold", None, "x", [("say", "a")]), ("hold", None, "a", [])])
        run = [("hold", at(0))]
        self.assertEqual(self.led(program, run), (["f"], [], ["", ""], [("bare", at(0, 0))]))
        program = one([("hold", None, "x", []), ("hold", None, "a", [])])
        run += [("drop", at(0))]
        self.assertEqual(self.led(program, run), (["f"], [], ["", ""], [("bare", at(1))]))
        program = one([("hold", "a", "y", [("hold", None, "a", [("set", "a", "x")])])])
        run = [("hold", at(0)), ("hold", at(0, 0)), ("set", at(0, 0, 0)), ("drop", at(0, 0))]
        self.assertEqual(self.led(program, run), (["f"], [("a", "x")], ["x", ""], [("drop", at(0))]))

    def test_hold_of_its_own_worth(self):
        program = one([("hold", "a", "y", [("hold", "a", "a", [("set", "a", "x")])]), ("hold", "a", "a", [])])
        run = [("hold", at(0)), ("hold", at(0, 0)), ("set", at(0, 0, 0))]
        self.assertEqual(self.led(program, run)[1], [("a", "y"), ("a", "x")])
        run += [("drop", at(0, 0)), ("drop", at(0))]
        # The source is asked where there is no holder any more.
        self.assertEqual(self.led(program, run)[3], [("bare", at(1))])

    def test_set(self):
        body = [("hold", "a", "x", [("hold", "b", "y", [("set", "a", "b"), ("set", "b", "x"), ("set", None, "a")])])]
        run = [("hold", at(0)), ("hold", at(0, 0)), ("set", at(0, 0, 0)), ("set", at(0, 0, 1)), ("set", at(0, 0, 2))]
        self.assertEqual(self.led(one(body), run[:3])[1], [("a", "y"), ("b", "y")])
        self.assertEqual(self.led(one(body), run[:4])[1], [("a", "y"), ("b", "x")])
        self.assertEqual(self.led(one(body), run)[1], [("a", "y"), ("b", "x")])

    def test_set_in_a_function_changes_the_newest_holder(self):
        body = [("hold", "a", "x", [("hold", "a", "x", [("call", "g"), ("say", "a")]), ("say", "a")])]
        program = one(body, more=[("g", [("set", "a", "y")])])
        run = [("hold", at(0)), ("hold", at(0, 0)), ("call", at(0, 0, 0)), ("set", ("g", (0,))), ("end", "g")]
        run += [("say", at(0, 0, 1), "y"), ("drop", at(0, 0)), ("say", at(0, 1), "x")]
        self.assertEqual(self.led(program, run), (["f"], [("a", "x")], ["x", ""], [("drop", at(0))]))

    def test_set_of_none(self):
        self.assertEqual(next_events(one([("set", None, "x")]), []), [("set", at(0))])
        self.assertEqual(next_events(one([("set", None, "a")]), []), [("bare", at(0))])

    def test_what_is_bare(self):
        steps = [("say", "a"), ("when", "a", "x", [], []), ("set", "a", "x"), ("set", "a", "b"), ("set", "b", "a")]
        steps += [("hold", "a", "a", []), ("hold", "b", "a", []), ("hold", None, "a", []), ("set", None, "a")]
        for step in steps:
            program = one([step])
            self.assertEqual(self.led(program, [("bare", at(0))]), (["f"], [], ["", ""], []))
            self.assertEqual(next_events(program, []), [("bare", at(0))])
            self.assertFalse(is_run(program, [("bare", at(0)), ("bare", at(0))]))
            self.assertFalse(is_run(program, [("bare", at(0)), ("end", "f")]))
            for other in ["say", "set", "hold"]:
                self.assertFalse(is_run(program, [(other, at(0))]))

    def test_bare_keeps_the_stack(self):
        program = one([("hold", "b", "y", [("call", "g")])], more=[("g", [("guard", [("say", "a")])])])
        run = [("hold", at(0)), ("call", at(0, 0)), ("bare", ("g", (0, 0)))]
        self.assertEqual(self.led(program, run), (["f", "g"], [("b", "y")], ["", "y"], []))

    def test_a_held_name_is_no_help_for_another(self):
        program = one([("hold", "a", "y", [("set", "a", "b")])])
        self.assertEqual(next_events(program, [("hold", at(0))]), [("bare", at(0, 0))])
        program = one([("hold", "b", "y", [("set", "a", "b")])])
        self.assertEqual(next_events(program, [("hold", at(0))]), [("bare", at(0, 0))])

    def test_say_tells_the_worth(self):
        program = one([("hold", "a", "y", [("say", "a")])])
        self.assertEqual(next_events(program, [("hold", at(0))]), [("say", at(0, 0), "y")])
        self.assertFalse(is_run(program, [("hold", at(0)), ("say", at(0, 0), "x")]))
        self.assertFalse(is_run(program, [("hold", at(0)), ("say", at(0, 0))]))

    def test_when(self):
        body = [("hold", "a", "x", [("when", "a", "x", [("set", None, "x")], [("raise",)])])]
        self.assertEqual(next_events(one(body), [("hold", at(0))]), [("set", at(0, 0, 0, 0))])
        body = [("hold", "a", "x", [("when", "a", "y", [("set", None, "x")], [("raise",)])])]
        self.assertEqual(next_events(one(body), [("hold", at(0))]), [("raise", at(0, 0, 1, 0))])
        body = [("hold", "a", "x", [("when", "a", "x", [], [("raise",)])])]
        self.assertEqual(next_events(one(body), [("hold", at(0))]), [("drop", at(0))])

    def test_either_and_loop(self):
        program = one([("either", [("set", None, "x")], []), ("loop", [("set", None, "y"), ("set", None, "y")])])
        self.assertEqual(next_events(program, []), [("end", "f"), ("set", at(0, 0, 0)), ("set", at(1, 0))])
        self.assertEqual(next_events(program, [("set", at(1, 0))]), [("set", at(1, 1))])
        for times in range(3):
            run = [("set", at(0, 0, 0))] + [("set", at(1, 0)), ("set", at(1, 1))] * times
            self.assertEqual(next_events(program, run), [("end", "f"), ("set", at(1, 0))])

    def test_loops_without_events(self):
        body = [("loop", [("loop", []), ("either", [], [("guard", [])])]), ("say", "a")]
        self.assertEqual(next_events(one(body), []), [("bare", at(1))])

    def test_raise_without_guard(self):
        program = one([("guard", []), ("hold", "a", "x", [("call", "g")])], more=[("g", [("raise",)])])
        run = [("hold", at(1)), ("call", at(1, 0)), ("raise", ("g", (0,)))]
        self.assertEqual(self.led(program, run), ([], [], ["", ""], []))

    def test_raise_to_a_guard(self):
        inner = [("hold", "b", "x", [("guard", [("hold", "b", "y", [("call", "g")])]), ("say", "b")])]
        program = one([("guard", [("hold", "a", "x", inner)])], more=[("g", [("hold", "a", "y", [("raise",)])])])
        run = [("hold", at(0, 0)), ("hold", at(0, 0, 0)), ("hold", at(0, 0, 0, 0, 0)), ("call", at(0, 0, 0, 0, 0, 0))]
        run += [("hold", ("g", (0,))), ("raise", ("g", (0, 0)))]
        holders = [("a", "x"), ("b", "x")]
        self.assertEqual(self.led(program, run), (["f"], holders, ["x", "x"], [("say", at(0, 0, 0, 1), "x")]))

    def test_raise_past_holds_of_none(self):
        program = one([("hold", "a", "x", [("guard", [("hold", None, "y", [("raise",)])])])])
        run = [("hold", at(0)), ("hold", at(0, 0, 0)), ("raise", at(0, 0, 0, 0))]
        self.assertEqual(self.led(program, run), (["f"], [("a", "x")], ["x", ""], [("drop", at(0))]))

    def test_raise_to_a_guard_within_a_hold_of_none(self):
        inner = [("hold", None, "x", [("guard", [("hold", "b", "y", [("raise",)])])])]
        program = one([("hold", "a", "x", inner)])
        run = [("hold", at(0)), ("hold", at(0, 0)), ("hold", at(0, 0, 0, 0)), ("raise", at(0, 0, 0, 0, 0))]
        self.assertEqual(self.led(program, run), (["f"], [("a", "x")], ["x", ""], [("drop", at(0, 0))]))

    def test_a_guard_is_open_only_within_its_body(self):
        program = one([("guard", [("set", None, "x")]), ("raise",)])
        run = [("set", at(0, 0)), ("raise", at(1))]
        self.assertEqual(self.led(program, run), ([], [], ["", ""], []))
        program = one([("guard", [("guard", [("raise",)]), ("raise",)]), ("set", None, "x")])
        run = [("raise", at(0, 0, 0)), ("raise", at(0, 1))]
        self.assertEqual(self.led(program, run), (["f"], [], ["", ""], [("set", at(1))]))

    def test_raise_in_a_frame_below(self):
        more = [("g", [("call", "h"), ("say", "a")]), ("h", [("raise",)])]
        program = one([("loop", [("guard", [("call", "g")])])], more=more)
        run = [("call", at(0, 0, 0)), ("call", ("g", (0,))), ("raise", ("h", (0,)))]
        ahead = [("call", at(0, 0, 0)), ("end", "f")]
        self.assertEqual(self.led(program, run + run), (["f"], [], ["", ""], ahead))

    def test_recursion(self):
        program = one([("either", [("call", "f")], [])])
        run = [("call", at(0, 0, 0))] * 3 + [("end", "f")] * 2
        self.assertEqual(self.led(program, run), (["f", "f"], [], ["", ""], [("end", "f")]))
        self.assertFalse(is_run(program, run + [("call", at(0, 0, 0))]))

    def test_the_first_function_begins(self):
        program = Program(["a"], ["x"], [("z", [("call", "b")]), ("b", [])])
        self.assertEqual(stack_of(program, []), ["z"])
        self.assertEqual(stack_of(program, [("call", ("z", (0,)))]), ["z", "b"])

    def test_names_in_the_order_of_the_program(self):
        program = one([("hold", "a", "x", [("hold", "c", "y", [])])], names=("c", "a", "b"))
        run = [("hold", at(0)), ("hold", at(0, 0))]
        self.assertEqual(cells_of(program, run), ["y", "x", ""])
        self.assertEqual(holders_of(program, run), [("a", "x"), ("c", "y")])


class Wrong(unittest.TestCase):
    """[16] and [17]: values that are no runs, and wrong arguments."""

    program = one([("hold", "a", "x", [("say", "a")])])
    whole = [("hold", at(0)), ("say", at(0, 0), "x"), ("drop", at(0)), ("end", "f")]

    def checks(self, value):
        self.assertIs(is_run(self.program, value), False)
        for call in [next_events, stack_of, holders_of, cells_of]:
            with self.assertRaises(InvalidRun) as caught:
                call(self.program, value)
            self.assertIs(caught.exception.value, value)

    def test_whole(self):
        self.assertIs(is_run(self.program, self.whole), True)
        self.assertIs(is_run(value=self.whole, program=self.program), True)
        self.assertEqual(stack_of(run=self.whole, program=self.program), [])

    def test_values_of_every_kind(self):
        for value in values_with_programs() + [self.program]:
            if value != []:
                self.checks(value)

    def test_events_of_every_kind(self):
        for value in values_with_programs() + [self.program]:
            self.checks([value])
            self.checks(self.whole[:1] + [value])
            self.checks(self.whole + [value])
            self.checks([("hold", at(0), value)])
            if value != at(0):
                self.checks([("hold", value)])
            if value != "hold":
                self.checks([(value, at(0))])
            if value != "f":
                self.checks([("hold", (value, (0,)))])
                self.checks(self.whole[:3] + [("end", value)])
            if value != (0,):
                self.checks([("hold", ("f", value))])
            if value != 0 or isinstance(value, bool):
                self.checks([("hold", ("f", (value,)))])
            if value != "x":
                self.checks(self.whole[:1] + [("say", at(0, 0), value)])

    def test_kinds_are_told_apart(self):
        self.checks(tuple(self.whole))
        self.checks([["hold", at(0)]])
        self.checks([("hold", ["f", (0,)])])
        self.checks([("hold", ("f", [0]))])
        self.checks([("hold", ("f", (False,)))])
        self.checks(self.whole[:1] + [("say", ("f", (0, False)), "x")])

    def test_no_program(self):
        for value in values_with_programs():
            for call in [is_run, next_events, stack_of, holders_of, cells_of]:
                with self.assertRaises(InvalidProgram) as caught:
                    call(value, "no run")
                self.assertIs(caught.exception.value, value)

    def test_arguments_stay_and_results_are_new(self):
        run = list(self.whole)
        for call in [next_events, stack_of, holders_of, cells_of]:
            for number in range(5):
                call(self.program, run[:number]).append("more")
        self.assertEqual(run, self.whole)
        self.assertEqual(next_events(self.program, run[:1]), [("say", at(0, 0), "x")])
        self.assertEqual(cells_of(self.program, run[:1]), ["x", ""])
        self.assertEqual(holders_of(self.program, run[:1]), [("a", "x")])


class AgainstPlain(unittest.TestCase):
    """[15] to [17] against whole stacks, along runs drawn with a fixed seed."""

    def test_drawn_runs(self):
        chance = random.Random(4)
        words = set()
        for _ in range(400):
            program = drawn_program(chance, 10)
            plain = Plain(program)
            config, run = plain.start(), []
            for _ in range(chance.randint(1, 25)):
                _, events, _ = plain.unfold(config)
                self.assertEqual(next_events(program, run), sorted({event for event, _ in events}))
                if not events:
                    break
                event, config = chance.choice(events)
                run.append(event)
                words.add(event[0])
                self.check(program, plain, config, run)
        self.assertEqual(words, {"hold", "drop", "set", "say", "call", "end", "raise", "bare"})

    def check(self, program, plain, config, run):
        self.assertTrue(is_run(program, run))
        self.assertEqual(stack_of(program, run), plain.stack(config))
        self.assertEqual(holders_of(program, run), [holder[:2] for holder in config[1]])
        self.assertEqual(cells_of(program, run), plain.cells(config[1]))

    def test_drawn_values(self):
        chance = random.Random(5)
        found = {True: 0, False: 0}
        for _ in range(400):
            program = drawn_program(chance, 10)
            plain = Plain(program)
            config, run, every = plain.start(), [], []
            for _ in range(12):
                _, events, _ = plain.unfold(config)
                every += [event for event, _ in events]
                if not events:
                    break
                event, config = chance.choice(events)
                run.append(event)
            for _ in range(4):
                other = list(run)
                other[chance.randrange(len(other))] = chance.choice(every)
                is_one = plain.walk(other) is not None
                found[is_one] += 1
                self.assertIs(is_run(program, other), is_one)
        self.assertGreater(min(found.values()), 100)


if __name__ == "__main__":
    unittest.main()
