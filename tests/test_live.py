import random
import unittest

from draw import drawn_body, drawn_program, held_and_set, values_with_programs
from heldnames.asked import idle, muted
from heldnames.cells import met
from heldnames.errors import HeldError, InvalidItem, InvalidPlace, InvalidProgram, NothingToUndo, UnknownName
from heldnames.library import Library
from heldnames.live import Live
from heldnames.programs import Program, places
from heldnames.texts import text_of
from test_against_plain import all_places
from test_cells import HORN, at, one
from test_programs import EVERY, Caught, bad_steps, every


class Begins(Caught):
    """[65]: `Live`."""

    def test_it_leads_a_program_on(self):
        live = Live(HORN)
        self.assertEqual(live.shown(), HORN)
        self.assertEqual(live.log(), [])
        self.assertEqual(Live(program=HORN), live)

    def test_no_program(self):
        for value in values_with_programs() + [Live(HORN), Library(HORN)]:
            self.raises(InvalidProgram, value, Live, value)

    def test_it_is_no_program_itself(self):
        live = Live(HORN)
        for call in [text_of, idle, Library, lambda value: places(value, "say"), lambda value: muted(value, [])]:
            self.raises(InvalidProgram, live, call, live)


class Rewrite(Caught):
    """[65]: `rewrite`."""

    def test_rewrite(self):
        live = Live(HORN)
        self.assertIsNone(live.rewrite("talk", [("say", "tone")]))
        functions = [HORN.functions()[0], ("talk", [("say", "tone")])]
        self.assertEqual(live.shown(), Program(["tone"], ["low", "high"], functions))
        self.assertIsNone(live.rewrite(body=[], function="main"))
        self.assertEqual(live.shown().functions(), [("main", []), ("talk", [("say", "tone")])])

    def test_every_step(self):
        for function in ["f", "g", "a", "x"]:
            live = Live(every())
            live.rewrite(function, EVERY)
            self.assertEqual(dict(live.shown().functions())[function], EVERY)
            self.assertEqual([name for name, _ in live.shown().functions()], ["f", "g", "a", "x"])

    def test_an_equal_body_is_a_deed(self):
        live = Live(HORN)
        body = HORN.functions()[1][1]
        live.rewrite("talk", body)
        self.assertEqual([live.shown(), live.log()], [HORN, [("rewrite", "talk", body)]])
        live.back()
        self.assertEqual(live.log(), [])

    def test_no_function(self):
        live = Live(HORN)
        for value in values_with_programs() + ["tone", "low", "begin", ["main"], HORN, live]:
            if value != "main":
                self.raises(UnknownName, value, live.rewrite, value, "no body")
        self.assertEqual([live.shown(), live.log()], [HORN, []])

    def test_no_body(self):
        program = Program(["a", "b"], ["x"], [("f", [("say", "a")])])
        live = Live(program)
        for value in values_with_programs() + [program, live, ("say", "a"), (("say", "a"),)]:
            if value != []:
                self.raises(InvalidItem, value, live.rewrite, "f", value)
        for step in bad_steps():
            for body in [[step], [("raise",), step], [("loop", [("either", [], [step])])]]:
                self.raises(InvalidItem, body, live.rewrite, "f", body)
        self.assertEqual([live.shown(), live.log()], [program, []])

    def test_a_body_of_this_program(self):
        live = Live(one([], more=[("g", [])]))
        for body in [[("call", "h")], [("say", "c")], [("set", "a", "z")], [("when", "a", "b", [], [])]]:
            self.raises(InvalidItem, body, live.rewrite, "g", body)
        live.rewrite("g", [("call", "f"), ("call", "g"), ("set", "a", "b")])
        self.assertEqual(len(live.log()), 1)

    def test_errors_in_order(self):
        self.raises(UnknownName, "h", Live(HORN).rewrite, "h", "no body")


class Mute(Caught):
    """[65]: `mute`."""

    def test_mute(self):
        live = Live(HORN)
        self.assertIsNone(live.mute(("talk", (0, 0, 0))))
        self.assertEqual(live.shown(), muted(HORN, [("talk", (0, 0, 0))]))
        self.assertIsNone(live.mute(place=("main", (0,))))
        self.assertEqual(live.shown(), muted(HORN, [("talk", (0, 0, 0)), ("main", (0,))]))

    def test_each_place(self):
        program = every()
        for place in all_places(program):
            live = Live(program)
            if place in [("f", (0,)), ("f", (1,)), ("x", (0,))]:
                live.mute(place)
                self.assertEqual(live.shown(), muted(program, [place]))
                self.assertEqual(live.log(), [("mute", place)])
                # It has no name any more.
                self.raises(InvalidPlace, place, live.mute, place)
                self.assertEqual(live.log(), [("mute", place)])
            else:
                self.raises(InvalidPlace, place, live.mute, place)
                self.assertEqual([live.shown(), live.log()], [program, []])

    def test_no_place(self):
        live = Live(HORN)
        bad = [("main", path) for path in [(), (2,), (0, 1), [0], (False,), 0]]
        bad += [("main", (0,), 0), ["main", (0,)], ("f", (0,)), HORN, live]
        for value in values_with_programs() + bad:
            self.raises(InvalidPlace, value, live.mute, value)
        self.assertEqual([live.shown(), live.log()], [HORN, []])

    def test_places_go_by_the_program_as_it_stands(self):
        live = Live(one([("hold", "a", "x", [("set", "a", "y")])]))
        live.rewrite("f", [("say", "a"), ("set", "b", "a")])
        self.raises(InvalidPlace, place := at(0), live.mute, place)
        self.raises(InvalidPlace, place := at(0, 0), live.mute, place)
        live.mute(at(1))
        self.assertEqual(live.shown(), one([("say", "a"), ("set", None, "a")]))


class Asking(Caught):
    """[66]: `shown`, `met` and `idle`."""

    def test_shown_stays(self):
        live = Live(HORN)
        shown = [live.shown()]
        texts = [text_of(HORN)]
        for deed in [lambda: live.mute(("main", (0,))), lambda: live.rewrite("main", []), live.back, live.back]:
            deed()
            shown.append(live.shown())
            texts.append(text_of(live.shown()))
        self.assertEqual([text_of(program) for program in shown], texts)
        self.assertEqual(texts[:2], texts[:2:-1])
        self.assertEqual(len(set(texts)), 3)

    def test_told_lists_of_shown_change_nothing(self):
        live = Live(HORN)
        live.rewrite("main", [("loop", [("call", "talk")])])
        wanted = text_of(live.shown())
        for _, body in live.shown().functions():
            body.append(None)
            body[0][-1].append(None)
        self.assertEqual(text_of(live.shown()), wanted)

    def test_met(self):
        live = Live(HORN)
        self.assertEqual(self.told(live.met, ("talk", (0,))), [["high"], ["low"]])
        live.mute(("talk", (0, 0, 0)))
        self.assertEqual(self.told(live.met, ("talk", (0,))), [["low"]])
        self.assertEqual(live.met(place=("talk", (0, 1, 0))), [])
        live.back()
        self.assertEqual(live.met(("talk", (0, 1, 0))), [["high"]])

    def test_met_at_no_place(self):
        live = Live(HORN)
        for value in values_with_programs() + [("main", ()), ("main", (2,)), ("f", (0,)), live, HORN]:
            self.raises(InvalidPlace, value, live.met, value)
        live.rewrite("main", [])
        self.raises(InvalidPlace, place := ("main", (0,)), live.met, place)

    def test_idle(self):
        live = Live(one([("hold", "a", "x", [("set", "b", "a")]), ("hold", "b", "y", [])]))
        self.assertEqual(self.told(live.idle), [at(1)])
        live.rewrite("f", [("hold", "a", "x", [("hold", "b", "y", [("set", "b", "a")])])])
        self.assertEqual(self.told(live.idle), [at(0, 0, 0)])
        live.mute(at(0, 0, 0))
        self.assertEqual(live.idle(), [at(0, 0)])
        live.mute(at(0, 0))
        self.assertEqual(live.idle(), [])
        live.back()
        self.assertEqual(live.idle(), [at(0, 0)])


class Undoing(Caught):
    """[66]: `back`, `log` and `copy`."""

    def test_back_down_to_the_first_program(self):
        live = Live(HORN)
        shown = []
        for number in range(6):
            shown.append(live.shown())
            if number % 2:
                live.mute(("talk", (number // 2,)))
            else:
                live.rewrite("talk", [("set", "tone", "low")] * (number + 1))
        while shown:
            self.assertEqual(len(live.log()), len(shown))
            self.assertIsNone(live.back())
            self.assertEqual(live.shown(), shown.pop())
        self.assertEqual([live.shown(), live.log()], [HORN, []])

    def test_nothing_to_undo(self):
        live = Live(HORN)
        for _ in range(2):
            self.assertRaises(NothingToUndo, live.back)
        live.mute(("main", (0,)))
        live.back()
        for _ in range(2):
            self.assertRaises(NothingToUndo, live.back)
        self.assertEqual([live.shown(), live.log()], [HORN, []])

    def test_deeds_behind_undone_ones(self):
        live = Live(HORN)
        live.rewrite("main", [])
        live.back()
        live.mute(("main", (0,)))
        live.rewrite("talk", [])
        live.back()
        live.rewrite("talk", [("raise",)])
        self.assertEqual(live.log(), [("mute", ("main", (0,))), ("rewrite", "talk", [("raise",)])])
        live.back()
        live.back()
        self.assertEqual(live.shown(), HORN)

    def test_deeds_that_raised_an_error(self):
        live = Live(HORN)
        live.mute(("main", (0,)))
        deeds = [
            lambda: live.mute(("main", (0,))), lambda: live.mute(("main", (1,))), lambda: live.rewrite("f", []),
            lambda: live.rewrite("main", [("call", "f")]), lambda: live.met(("f", (0,))),
        ]
        for deed in deeds:
            self.assertRaises(HeldError, deed)
            self.assertEqual(live.log(), [("mute", ("main", (0,)))])
            self.assertEqual(live.shown(), muted(HORN, [("main", (0,))]))
        live.back()
        self.assertEqual(live.shown(), HORN)
        self.assertRaises(NothingToUndo, live.back)

    def test_log_tells_bodies_as_they_were_given(self):
        live = Live(one([]))
        deep = [("set", "a", "x")]
        body = [("either", deep, deep), ("loop", [])]
        live.rewrite("f", body)
        live.mute(at(0, 0, 0))
        wanted = [("rewrite", "f", [("either", [("set", "a", "x")], [("set", "a", "x")]), ("loop", [])])]
        wanted.append(("mute", at(0, 0, 0)))
        self.assertEqual(self.told(live.log), wanted)
        # What was given and what was told may be changed.
        deep.append(None)
        body.clear()
        self.assertEqual(self.told(live.log), wanted)
        live.back()
        self.assertEqual(live.shown(), one(wanted[0][2]))
        self.assertEqual(self.told(live.log), wanted[:1])

    def test_the_same_body_twice(self):
        live = Live(one([], more=[("g", [])]))
        body = [("guard", [])]
        live.rewrite("f", body)
        live.rewrite("g", body)
        self.assertEqual(self.told(live.log), [("rewrite", "f", [("guard", [])]), ("rewrite", "g", [("guard", [])])])

    def test_copies_go_on_independently(self):
        live = Live(HORN)
        live.mute(("main", (0,)))
        live.rewrite("talk", [("raise",)])
        twin = live.copy()
        self.assertIsInstance(twin, Live)
        self.assertEqual([twin.shown(), twin.log()], [live.shown(), live.log()])
        shown, log = live.shown(), live.log()
        twin.back()
        twin.rewrite("main", [])
        self.assertEqual([live.shown(), live.log()], [shown, log])
        self.assertEqual(twin.log(), log[:1] + [("rewrite", "main", [])])
        live.back()
        live.back()
        self.assertEqual([live.shown(), live.log()], [HORN, []])
        self.assertEqual(len(twin.log()), 2)
        twin.back()
        self.assertEqual(twin.shown(), muted(HORN, [("main", (0,))]))
        twin.back()
        self.assertEqual(twin.shown(), HORN)
        self.assertRaises(NothingToUndo, twin.back)

    def test_copies_of_copies_and_of_none(self):
        live = Live(HORN).copy()
        self.assertRaises(NothingToUndo, live.back)
        live.mute(("main", (0,)))
        twin = live.copy().copy()
        live.back()
        twin.back()
        self.assertEqual([live, twin.log()], [twin, []])


class Equal(unittest.TestCase):
    """[66]: `==`."""

    def test_programs_count_and_deeds_do_not(self):
        live, other = Live(HORN), Live(Program(HORN.names(), HORN.worths(), HORN.functions()))
        self.assertTrue(live == other)
        self.assertFalse(live != other)
        live.mute(("main", (0,)))
        self.assertFalse(live == other)
        self.assertTrue(live != other)
        self.assertTrue(live == Live(live.shown()))
        self.assertTrue(live == live.copy())
        other.mute(("main", (0,)))
        other.rewrite("talk", other.shown().functions()[1][1])
        self.assertTrue(live == other)
        live.back()
        other.back()
        self.assertFalse(live == other)

    def test_no_other_object(self):
        live = Live(HORN)
        for value in values_with_programs() + [HORN, Library(HORN), live.log(), text_of(HORN)]:
            self.assertFalse(live == value)
            self.assertFalse(value == live)
            self.assertTrue(live != value)


class Drawn(unittest.TestCase):
    """Deeds drawn with a fixed seed, beside plain lists of programs and deeds."""

    def test_deeds(self):
        chance = random.Random(51)
        found = {"rewrite": 0, "mute": 0, "back": 0, "copy": 0}
        for _ in range(60):
            program = drawn_program(chance)
            pairs = [(Live(program), [(None, program)])]
            for _ in range(12):
                live, kept = chance.choice(pairs)
                word = self.deed(chance, live, kept)
                found[word] += 1
                if word == "copy":
                    pairs.append((live.copy(), list(kept)))
                for one_live, done in pairs:
                    self.assertEqual(one_live.shown(), done[-1][1])
                    self.assertEqual(one_live.log(), [deed for deed, _ in done[1:]])
            for live, kept in pairs:
                self.assertEqual(live.idle(), idle(kept[-1][1]))
                for place in all_places(live.shown()):
                    self.assertEqual(live.met(place), met(kept[-1][1], place))
        self.assertGreater(min(found.values()), 50, found)

    def deed(self, chance, live, kept):
        program = kept[-1][1]
        named = [place for place, step in held_and_set(program) if step[1] is not None]
        functions = program.functions()
        word = chance.choice(["rewrite", "rewrite", "mute", "mute", "back", "copy"])
        if word == "mute" and named:
            place = chance.choice(named)
            live.mute(place)
            kept.append((("mute", place), muted(program, [place])))
        elif word == "back" and len(kept) > 1:
            live.back()
            kept.pop()
        elif word == "rewrite":
            number = chance.randrange(len(functions))
            function, _ = functions[number]
            called = [name for name, _ in functions]
            body = drawn_body(chance, program.names(), program.worths(), called, [5], 3)
            live.rewrite(function, body)
            functions[number] = (function, body)
            kept.append((("rewrite", function, body), Program(program.names(), program.worths(), functions)))
        else:
            return "copy"
        return word


if __name__ == "__main__":
    unittest.main()
