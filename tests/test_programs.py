import time
import unittest

from draw import WORDS, deep_list, values_with_programs
from heldnames.errors import (
    InvalidItem, InvalidList, InvalidName, InvalidPlace, InvalidProgram, InvalidWord, TakenName, UnknownName,
)
from heldnames.programs import Program, places, step_at

EVERY = [
    ("hold", "a", "x", [("say", "a"), ("hold", None, "a", [])]),
    ("set", "b", "a"),
    ("set", None, "y"),
    ("either", [("call", "g"), ("raise",)], [("loop", [("say", "b")])]),
    ("when", "a", "y", [("call", "f")], [("guard", [("raise",)])]),
]


def every():
    return Program(["a", "b"], ["x", "y"], [("f", EVERY), ("g", []), ("a", [("call", "x")]), ("x", [("set", "a", "x")])])


def lists_in(value):
    """Return all lists within a value, itself with them."""
    found = [value] if isinstance(value, list) else []
    if isinstance(value, (list, tuple)):
        for part in value:
            found += lists_in(part)
    return found


class Caught(unittest.TestCase):
    def raises(self, error, value, call, *arguments):
        with self.assertRaises(error) as caught:
            call(*arguments)
        self.assertIs(type(caught.exception), error)
        field = "name" if error in (InvalidName, TakenName, UnknownName) else "value"
        self.assertIs(getattr(caught.exception, field), value)

    def told(self, call, *arguments):
        """Return what a call tells: the same each time, in lists of its own, whatever becomes of those told before."""
        shown = None
        for _ in range(3):
            value = call(*arguments)
            shown = shown or repr(value)
            self.assertEqual(repr(value), shown)
            found = lists_in(value)
            self.assertEqual(len({id(part) for part in found}), len(found))
            for part in found:
                part.append("more")
        return call(*arguments)


class Making(Caught):
    """[10] and [11]: what programs are made of."""

    def test_lists_come_back_as_they_were(self):
        program = every()
        self.assertEqual(program.names(), ["a", "b"])
        self.assertEqual(program.worths(), ["x", "y"])
        self.assertEqual(program.functions()[0], ("f", EVERY))
        self.assertEqual([function for function, _ in program.functions()], ["f", "g", "a", "x"])
        self.assertEqual(Program(["b", "a"], ["y", "x"], [("f", [])]).names(), ["b", "a"])
        self.assertEqual(Program(["b", "a"], ["y", "x"], [("f", [])]).worths(), ["y", "x"])

    def test_arguments_by_name(self):
        program = Program(functions=[("f", [])], worths=["x"], names=["a"])
        self.assertEqual(program, Program(["a"], ["x"], [("f", [])]))

    def test_most_and_fewest(self):
        program = Program(["a", "b", "abcdefgh"], ["x", "y", "z"], [("f", []), ("g", []), ("x", []), ("a", [])])
        self.assertEqual(len(program.functions()), 4)

    def test_names_are_no_list(self):
        for value in values_with_programs() + [["a", "b", "c", "d"]]:
            if not isinstance(value, list) or not 1 <= len(value) <= 3:
                self.raises(InvalidList, value, Program, value, None, None)
                self.raises(InvalidList, value, Program, ["a"], value, None)

    def test_functions_are_no_list(self):
        five = [(name, []) for name in "fghij"]
        for value in values_with_programs() + [five]:
            if not isinstance(value, list) or not 1 <= len(value) <= 4:
                self.raises(InvalidList, value, Program, ["a"], ["x"], value)

    def test_items_are_no_names(self):
        for value in values_with_programs() + ["abcdefghi", "", "Ab", "a1", "a_", "\u00e4", "a\n"]:
            fits = isinstance(value, str) and value.isascii() and value.isalpha() and value.islower() and len(value) < 9
            if fits:
                Program([value, "b"], ["c"], [("f", [])])
                Program(["b"], ["c", value], [("f", [])])
            else:
                self.raises(InvalidItem, value, Program, ["b", value, "a"], None, None)
                self.raises(InvalidItem, value, Program, ["b"], ["a", value, "c"], None)

    def test_items_twice(self):
        first, second = "na", "".join(["n", "a"])
        self.raises(InvalidItem, second, Program, [first, second, True], None, None)
        self.raises(InvalidItem, second, Program, ["b"], [first, second, True], None)
        self.raises(InvalidItem, second, Program, [first], ["b", second, True], None)

    def test_first_item_that_does_not_fit(self):
        self.raises(InvalidItem, 1, Program, ["a", 1, None], None, None)
        self.raises(InvalidItem, 1, Program, ["a"], ["x", 1, "a"], None)
        self.raises(InvalidItem, "a", Program, ["a"], ["x", "a", 1], None)

    def test_order_of_errors(self):
        self.raises(InvalidList, (), Program, (), [], [])
        self.raises(InvalidItem, 1, Program, [1], (), ())
        self.raises(InvalidList, 7, Program, ["a"], 7, 8)
        self.raises(InvalidItem, 7, Program, ["a"], [7], 8)
        self.raises(InvalidList, 8, Program, ["a"], ["x"], 8)

    def test_items_are_no_functions(self):
        for value in values_with_programs():
            self.raises(InvalidItem, value, Program, ["a"], ["x"], [("f", []), value, None])
        for value in [("f",), ("f", [], []), ["f", []], ("F", []), (True, []), ("f", ()), ("f", None), ((), [])]:
            self.raises(InvalidItem, value, Program, ["a"], ["x"], [value, None])

    def test_functions_twice(self):
        second = ("f", [])
        self.raises(InvalidItem, second, Program, ["a"], ["x"], [("f", [("raise",)]), second, None])

    def test_first_function_that_does_not_fit(self):
        bad = ("g", [("raise", 1)])
        self.raises(InvalidItem, bad, Program, ["a"], ["x"], [("f", []), bad, ("f", [])])

    def test_functions_that_may_be_called(self):
        calls = [("call", "f"), ("call", "g"), ("call", "x")]
        program = Program(["a"], ["x"], [("f", calls), ("g", calls), ("x", calls)])
        self.assertEqual(len(places(program, "call")), 9)
        # An item whose body does not fit counts as a function for the bodies ahead of it.
        bad = ("g", "no body")
        self.raises(InvalidItem, bad, Program, ["a"], ["x"], [("f", [("call", "g")]), bad])
        for other in [("g",), ("g", [], []), ["g", []], ("G", []), None]:
            first = ("f", [("call", "g")])
            self.raises(InvalidItem, first, Program, ["a"], ["x"], [first, other])


def bad_steps():
    """Return tuples and other values that are no steps over the names a and b, the worth x, and the function f."""
    found = [value for value in values_with_programs()]
    for word in WORDS + ["drop", "end", "bare", "Hold", ""]:
        found += [word, [word], (word, [], [], []), (word, None, None, None, None, None)]
        if word not in ("loop", "guard"):
            found.append((word, []))
        if word != "either":
            found.append((word, [], []))
        if word != "raise":
            found.append((word,))
    for value in values_with_programs():
        if value not in (None, "a") or isinstance(value, bool):
            found += [("hold", value, "x", []), ("set", value, "x")]
        if value != "a":
            found += [("say", value), ("when", value, "x", [], [])]
        if value not in ("a", "x"):
            found += [("hold", "a", value, []), ("set", "a", value), ("hold", None, value, []), ("set", None, value)]
        if value != "x":
            found.append(("when", "a", value, [], []))
        if value != "f":
            found.append(("call", value))
        if value != []:
            found += [("hold", "a", "x", value), ("either", value, []), ("either", [], value), ("loop", value)]
            found += [("when", "a", "x", value, []), ("when", "a", "x", [], value), ("guard", value)]
            found.append((value,))
        found += [("raise", value), ("say", "a", value), ("set", "a", "x", value), ("call", "f", value)]
    return found


class Bodies(Caught):
    """[11]: what bodies are made of."""

    def test_no_steps(self):
        for step in bad_steps():
            for body in [[step], [("raise",), step], [("loop", [("either", [], [step])])]]:
                item = ("f", body)
                self.raises(InvalidItem, item, Program, ["a", "b"], ["x"], [item])

    def test_steps_are_no_lists(self):
        for step in [["say", "a"], ["raise"], "raise", ["loop", []]]:
            item = ("f", [step])
            self.raises(InvalidItem, item, Program, ["a"], ["x"], [item])

    def test_steps(self):
        steps = [
            ("hold", "a", "x", []), ("hold", "a", "b", []), ("hold", None, "b", []), ("hold", None, "x", []),
            ("set", "b", "x"), ("set", "b", "b"), ("set", None, "b"), ("set", None, "x"), ("say", "a"), ("call", "f"),
            ("either", [], []), ("loop", []), ("when", "a", "x", [], []), ("raise",), ("guard", []),
        ]
        for step in steps:
            program = Program(["a", "b"], ["x"], [("f", [step])])
            self.assertEqual(program.functions(), [("f", [step])])


class Sharing(Caught):
    """[2]: given values stay, and told lists are new ones."""

    def test_changing_what_was_given(self):
        deep = [("say", "a")]
        body = [("hold", "a", "x", deep), ("either", deep, deep)]
        names, worths, functions = ["a"], ["x"], [("f", body), ("g", body)]
        program = Program(names, worths, functions)
        twin = Program(["a"], ["x"], program.functions())
        told = [program.names(), program.worths(), program.functions(), step_at(program, ("f", (1,)))]
        for given in [names, worths, functions, body, deep]:
            given.append(None)
        self.assertEqual([program.names(), program.worths(), program.functions(), step_at(program, ("f", (1,)))], told)
        self.assertEqual(program, twin)

    def test_arguments_stay(self):
        deep = [("say", "a")]
        functions = [("f", [("loop", deep)])]
        Program(["a"], ["x"], functions)
        self.assertEqual(functions, [("f", [("loop", [("say", "a")])])])

    def test_changing_what_was_told(self):
        program = every()
        for _ in range(2):
            self.assertEqual(program, every())
            told = [program.names(), program.worths(), program.functions(), step_at(program, ("f", (3,)))]
            told += [places(program, word) for word in WORDS]
            for value in lists_in(told):
                value.append("more")
            self.assertEqual(step_at(program, ("f", (3,))), EVERY[3])
            self.assertEqual(len(places(program, "say")), 2)

    def test_no_list_twice(self):
        deep = [("say", "a")]
        body = [("loop", deep), ("either", deep, deep)]
        program = Program(["a"], ["x"], [("f", body), ("g", body)])
        for told in [program.functions(), [step_at(program, ("f", (1,))), step_at(program, ("f", (1,)))]]:
            found = lists_in(told)
            self.assertEqual(len({id(value) for value in found}), len(found))


class Equal(unittest.TestCase):
    """[10]: `==`."""

    def test_equal(self):
        self.assertTrue(every() == every())
        self.assertFalse(every() != every())

    def test_unlike(self):
        parts = (["a", "b"], ["x", "y"], [("f", [("say", "a")]), ("g", [])])
        others = [
            (["b", "a"], parts[1], parts[2]), (["a"], parts[1], parts[2]), (parts[0], ["y", "x"], parts[2]),
            (parts[0], ["x"], parts[2]), (parts[0], parts[1], [parts[2][1], parts[2][0]]),
            (parts[0], parts[1], parts[2][:1]), (parts[0], parts[1], [("f", [("say", "b")]), ("g", [])]),
        ]
        for other in others:
            self.assertFalse(Program(*parts) == Program(*other))
            self.assertTrue(Program(*parts) != Program(*other))

    def test_no_other_object(self):
        for value in values_with_programs() + [every().functions()]:
            self.assertFalse(every() == value)
            self.assertFalse(value == every())
            self.assertTrue(every() != value)


class Places(Caught):
    """[12] and [13]."""

    def test_places(self):
        program = every()
        self.assertEqual(places(program, "hold"), [("f", (0,)), ("f", (0, 1))])
        self.assertEqual(places(program, "set"), [("f", (1,)), ("f", (2,)), ("x", (0,))])
        self.assertEqual(places(program, "say"), [("f", (0, 0)), ("f", (3, 1, 0, 0))])
        self.assertEqual(places(program, "call"), [("f", (3, 0, 0)), ("f", (4, 0, 0)), ("a", (0,))])
        self.assertEqual(places(program, "raise"), [("f", (3, 0, 1)), ("f", (4, 1, 0, 0))])
        self.assertEqual(places(program, "either"), [("f", (3,))])
        self.assertEqual(places(program, "loop"), [("f", (3, 1, 0))])
        self.assertEqual(places(program, "when"), [("f", (4,))])
        self.assertEqual(places(program, "guard"), [("f", (4, 1, 0))])
        self.assertEqual(places(Program(["a"], ["x"], [("f", [])]), "say"), [])
        self.assertEqual(places(word="either", program=program), [("f", (3,))])

    def test_functions_in_the_order_of_the_list(self):
        program = Program(["a"], ["x"], [("g", [("raise",)]), ("f", [("raise",), ("raise",)])])
        self.assertEqual(places(program, "raise"), [("g", (0,)), ("f", (0,)), ("f", (1,))])

    def test_paths_in_order(self):
        body = [("either", [("say", "a")] * 12, [("loop", [("say", "a")])]), ("say", "a")]
        program = Program(["a"], ["x"], [("f", body)])
        found = places(program, "say")
        self.assertEqual(found, sorted(found))
        self.assertEqual(len(found), 14)

    def test_step_at_is_the_step_there(self):
        program = every()
        for word in WORDS:
            for place in places(program, word):
                self.assertEqual(step_at(program, place)[0], word)
        self.assertEqual(step_at(program, ("f", (0, 1))), ("hold", None, "a", []))
        self.assertEqual(step_at(place=("f", (4, 1, 0, 0)), program=program), ("raise",))
        self.assertEqual(step_at(program, ("a", (0,))), ("call", "x"))

    def test_no_program(self):
        for value in values_with_programs():
            self.raises(InvalidProgram, value, places, value, "no word")
            self.raises(InvalidProgram, value, step_at, value, "no place")

    def test_no_word(self):
        for value in values_with_programs() + ["drop", "end", "bare", "Say", ["say"], ("say",), every()]:
            if value not in WORDS:
                self.raises(InvalidWord, value, places, every(), value)

    def test_no_place(self):
        paths = [
            (), (5,), (-1,), (0, 2), (0, -1), (0, 0, 0), (1, 0), (3, 0), (3, 1), (3, 2, 0), (3, -1, 0), (3, True, 0),
            (False,), (True,), ("0",), (None,), (0, 1, 0), ((0,),), ([0],), (10 ** 30,), [0], 0, None, "0", {0: 0},
        ]
        bad = [("f", path) for path in paths]
        bad += [("g", (0,)), ("h", (0,)), ("F", (0,)), (None, (0,)), (["f"], (0,)), ["f", (0,)], ("f",), ("f", (0,), 0)]
        for value in bad + [value for value in values_with_programs() + [every()] if value != ("f", (0,))]:
            self.raises(InvalidPlace, value, step_at, every(), value)


class Large(unittest.TestCase):
    """[3]: bodies of 1,000 steps, 12 deep."""

    def large_body(self, many, deep):
        body = [("say", "a")] * many
        for _ in range(deep - 1):
            body = [("when", "a", "x", body, [("set", "a", "x")])] + [("hold", "a", "x", [])] * many
        return body

    def test_large(self):
        body = self.large_body(80, 12)
        began = time.monotonic()
        functions = [("f", body), ("g", body), ("h", body), ("i", body)]
        program = Program(["a"], ["x"], functions)
        self.assertEqual(program, Program(["a"], ["x"], program.functions()))
        self.assertEqual(program.functions(), functions)
        self.assertEqual(len(places(program, "say")), 320)
        self.assertEqual(len(places(program, "when")), 44)
        place = ("i", (0, 0) * 11 + (79,))
        self.assertEqual(step_at(program, place), ("say", "a"))
        self.assertRaises(InvalidPlace, lambda: step_at(program, ("i", (0, 0) * 12 + (0,))))
        self.assertLess(time.monotonic() - began, 5)

    def test_large_with_a_fault(self):
        body = self.large_body(80, 12)
        wrong = [("loop", body)] + [("guard", [("loop", [("say", "x")])])]
        with self.assertRaises(InvalidItem):
            Program(["a"], ["x"], [("f", wrong)])
        with self.assertRaises(InvalidItem):
            Program(["a"], ["x"], [("f", deep_list(29))])


if __name__ == "__main__":
    unittest.main()
