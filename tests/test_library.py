import random
import unittest

from draw import few_program, values_with_programs
from heldnames.begun import bare_from
from heldnames.errors import (
    HeldError, InvalidCells, InvalidName, InvalidProgram, NothingToUndo, TakenName, UnknownName,
)
from heldnames.library import Library
from heldnames.live import Live
from heldnames.programs import Program
from heldnames.taken import apart
from test_against_plain import all_cells
from test_cells import HORN, at, one
from test_programs import Caught

NO_NAMES = ["", "abcdefghi", "A", "aB", "a b", "a1", "a_", "_", " a", "a\n", "\u00e4"]


def filled():
    """Return a library of HORN that keeps three cells."""
    library = Library(HORN)
    library.put("two", ["low"])
    library.put("one", [""])
    library.put("three", ["high"])
    return library


def state_of(library):
    return [[(name, library.cells_of(name)) for name in library.names()], library.log()]


class Keeping(Caught):
    """[75]: what is kept."""

    def test_at_first(self):
        library = Library(HORN)
        self.assertEqual([library.program(), library.names(), library.log(), len(library)], [HORN, [], [], 0])
        self.assertEqual(Library(program=HORN), library)

    def test_no_program(self):
        for value in values_with_programs() + [Live(HORN), Library(HORN)]:
            self.raises(InvalidProgram, value, Library, value)

    def test_put(self):
        library = Library(HORN)
        self.assertIsNone(library.put("a", ["low"]))
        self.assertIsNone(library.put(cells=[""], name="abcdefgh"))
        self.assertEqual([library.cells_of("a"), library.cells_of(name="abcdefgh")], [["low"], [""]])
        self.assertEqual(library.names(), ["a", "abcdefgh"])
        self.assertEqual(library.program(), HORN)

    def test_eight_names(self):
        library = Library(HORN)
        for name in "hgfedcba":
            library.put(name, ["low"])
        self.assertEqual(library.names(), list("abcdefgh"))
        self.assertEqual(len(library), 8)
        # Beyond the limit no error is told.
        library.put("i", ["high"])
        self.assertEqual(library.cells_of("i"), ["high"])

    def test_put_errors(self):
        library = filled()
        before = state_of(library)
        for value in values_with_programs() + NO_NAMES + [HORN, library, ["one"], ("one",)]:
            if value not in ("a", "f", "x", "main", "hold", "end"):
                self.raises(InvalidName, value, library.put, value, "no cells")
        self.raises(TakenName, "one", library.put, "one", "no cells")
        self.raises(TakenName, "one", library.put, "one", ["low"])
        for value in values_with_programs() + [HORN, library, ["high", "low"], ("low",), "low", ["tone"], [None], []]:
            if value != [""]:
                self.raises(InvalidCells, value, library.put, "four", value)
        self.assertEqual(state_of(library), before)

    def test_drop(self):
        library = filled()
        self.assertIsNone(library.drop("one"))
        self.assertEqual(library.names(), ["three", "two"])
        self.raises(UnknownName, "one", library.drop, "one")
        self.assertIsNone(library.drop(name="two"))
        library.put("one", ["high"])
        self.assertEqual([library.cells_of("one"), library.names()], [["high"], ["one", "three"]])

    def test_change(self):
        library = filled()
        self.assertIsNone(library.change("one", ["high"]))
        self.assertIsNone(library.change(cells=["high"], name="two"))
        self.assertEqual([library.cells_of(name) for name in library.names()], [["high"]] * 3)
        # Also by equal cells.
        library.change("one", ["high"])
        self.assertEqual(library.log()[-1], ("change", "one"))

    def test_unknown_names(self):
        library = filled()
        library.put("four", ["low"])
        library.drop("four")
        before = state_of(library)
        others = ["four", "tone", "low", "on", "onetwo", ["one"], ("one",), HORN, library]
        for value in values_with_programs() + NO_NAMES + others:
            self.raises(UnknownName, value, library.drop, value)
            self.raises(UnknownName, value, library.change, value, "no cells")
            self.raises(UnknownName, value, library.cells_of, value)
        for value in values_with_programs() + [HORN, library, ["high", "low"], ("low",), "low", ["tone"], [None], []]:
            if value != [""]:
                self.raises(InvalidCells, value, library.change, "one", value)
        self.assertEqual(state_of(library), before)

    def test_lists_stay_the_callers(self):
        library = Library(HORN)
        given = ["low"]
        library.put("a", given)
        library.put("b", given)
        given[0] = "high"
        self.assertEqual([library.cells_of("a"), library.cells_of("b")], [["low"], ["low"]])
        library.change("b", given)
        given.clear()
        for name, cells in [("a", ["low"]), ("b", ["high"])]:
            self.assertEqual(self.told(library.cells_of, name), cells)
        self.assertEqual(self.told(library.names), ["a", "b"])
        self.assertEqual(self.told(library.log), [("put", "a"), ("put", "b"), ("change", "b")])


class Asking(Caught):
    """[76]: `quiet` and `alike`."""

    def library(self, body, kept, more=()):
        library = Library(one(body, more=more))
        for name, cells in kept.items():
            library.put(name, cells)
        return library

    def test_quiet(self):
        self.assertEqual(self.told(filled().quiet), ["three", "two"])
        kept = {"d": ["", ""], "c": ["x", ""], "b": ["", "y"], "a": ["y", "x"]}
        self.assertEqual(self.library([], kept).quiet(), ["a", "b", "c", "d"])
        self.assertEqual(self.library([("say", "a")], kept).quiet(), ["a", "c"])
        self.assertEqual(self.library([("when", "a", "x", [], [("say", "b")])], kept).quiet(), ["a", "c"])
        self.assertEqual(self.library([("hold", "a", "x", [("call", "f")]), ("say", "b")], kept).quiet(), list("abcd"))
        self.assertEqual(self.library([("either", [("set", "b", "a")], [])], kept).quiet(), ["a"])
        self.assertEqual(Library(HORN).quiet(), [])

    def test_quiet_is_about_the_first_function(self):
        kept = {"a": ["", ""], "b": ["x", "x"]}
        self.assertEqual(self.library([], kept, [("g", [("say", "a")])]).quiet(), ["a", "b"])
        self.assertEqual(self.library([("call", "g")], kept, [("g", [("say", "a")])]).quiet(), ["b"])

    def test_quiet_goes_by_what_is_kept(self):
        library = filled()
        library.change("one", ["low"])
        library.drop("two")
        self.assertEqual(library.quiet(), ["one", "three"])
        library.back()
        library.back()
        self.assertEqual(library.quiet(), ["three", "two"])

    def test_alike(self):
        kept = {"d": ["x", "x"], "c": ["x", "y"], "b": ["y", "x"], "a": ["", "x"]}
        library = self.library([("say", "a")], kept)
        self.assertEqual(self.told(library.alike, ["x", ""]), ["c", "d"])
        self.assertEqual(library.alike(["y", ""]), ["b"])
        self.assertEqual(library.alike(cells=["", ""]), ["a"])
        library = self.library([("set", "b", "x"), ("when", "a", "x", [], [("raise",)])], kept)
        self.assertEqual([library.alike(["x", "x"]), library.alike(["y", "y"])], [["c", "d"], ["b"]])
        self.assertEqual(library.alike(["", ""]), [])
        self.assertEqual(self.library([("hold", "a", "x", [("call", "f")])], kept).alike(["y", ""]), list("abcd"))

    def test_alike_is_about_goings_alone(self):
        # What is left unlike, and what no going tells, makes no difference.
        kept = {"a": ["x", "x"], "b": ["y", "x"]}
        self.assertEqual(self.library([("set", "b", "a")], kept).alike(["x", "y"]), ["a", "b"])
        self.assertEqual(self.library([("set", "b", "a"), ("say", "b")], kept).alike(["x", "y"]), ["a"])
        self.assertEqual(self.library([], kept, [("g", [("say", "a")])]).alike(["", ""]), ["a", "b"])

    def test_alike_with_equal_cells(self):
        library = filled()
        library.put("four", ["low"])
        self.assertEqual(library.alike(["low"]), ["four", "two"])
        self.assertEqual([library.alike([""]), library.alike(["high"])], [["one"], ["three"]])
        self.assertEqual(Library(HORN).alike([""]), [])

    def test_alike_with_no_cells(self):
        library = filled()
        for value in values_with_programs() + [HORN, library, ["high", "low"], ("low",), "low", "one", ["one"], []]:
            if value != [""]:
                self.raises(InvalidCells, value, library.alike, value)
                self.raises(InvalidCells, value, Library(HORN).alike, value)


class Container(Caught):
    """[76]: `len`, `in`, `for` and `==`."""

    def test_len(self):
        library = Library(HORN)
        for many, name in enumerate("dbac"):
            self.assertEqual(len(library), many)
            library.put(name, [""])
        library.change("a", ["low"])
        self.assertEqual(len(library), 4)
        library.drop("a")
        self.assertEqual(len(library), 3)
        library.back()
        self.assertEqual(len(library), 4)

    def test_in(self):
        library = filled()
        for name in ["one", "two", "three"]:
            self.assertIs(name in library, True)
            self.assertIs("".join(list(name)) in library, True)
        others = ["four", "on", "onetwo", ["one"], ("one",), {"one": 1}, HORN, library]
        for value in values_with_programs() + NO_NAMES + others:
            self.assertIs(value in library, False)
            self.assertIs(value not in library, True)
            self.assertIs(value in Library(HORN), False)
        library.drop("one")
        self.assertIs("one" in library, False)

    def test_for(self):
        self.assertEqual(list(filled()), ["one", "three", "two"])
        self.assertEqual([name for name in Library(HORN)], [])
        library = filled()
        pairs = [(name, other) for name in library for other in library]
        self.assertEqual(len(pairs), 9)

    def test_for_while_the_library_changes(self):
        for deed in [
            lambda library, name: library.drop(name), lambda library, name: library.put(name + "more", [""]),
            lambda library, name: library.change(name, [""]), lambda library, name: library.back(),
            lambda library, name: [library.drop(other) for other in library.names()],
        ]:
            library = filled()
            found = []
            for name in library:
                found.append(name)
                if len(found) == 1:
                    deed(library, name)
            self.assertEqual(found, ["one", "three", "two"])
        library = filled()
        for name in library:
            library.drop(name)
        self.assertEqual(list(library), [])
        for _ in library:
            self.fail()

    def test_told_lists_change_nothing(self):
        library = filled()
        told = [library.names(), library.log(), library.quiet(), library.alike([""]), library.cells_of("one")]
        for value in told + [list(library)]:
            value.clear()
        self.assertEqual(library, filled())
        self.assertEqual(library.log(), filled().log())

    def test_equal(self):
        library, other = filled(), Library(Program(HORN.names(), HORN.worths(), HORN.functions()))
        self.assertFalse(library == other)
        for name in ["three", "two", "one"]:
            other.put(name, [""])
        self.assertFalse(library == other)
        other.change("two", ["low"])
        other.change("three", ["high"])
        # Neither the order of the deeds counts nor the deeds themselves.
        self.assertTrue(library == other)
        self.assertFalse(library != other)
        self.assertTrue(library == library.copy())
        other.drop("two")
        self.assertTrue(library != other)
        other.put("to", ["low"])
        self.assertTrue(library != other)

    def test_programs_count(self):
        self.assertTrue(Library(one([])) == Library(one([])))
        self.assertFalse(Library(one([])) == Library(one([("raise",)])))
        self.assertTrue(Library(one([])) != Library(one([("raise",)])))

    def test_no_other_object(self):
        for library in [filled(), Library(HORN)]:
            for value in values_with_programs() + [HORN, Live(HORN), library.names(), {"one": [""]}]:
                self.assertFalse(library == value)
                self.assertFalse(value == library)
                self.assertTrue(library != value)


class Undoing(Caught):
    """[77]."""

    def test_back_to_the_beginning(self):
        library = filled()
        library.change("one", ["high"])
        library.drop("two")
        log = [("put", "two"), ("put", "one"), ("put", "three"), ("change", "one"), ("drop", "two")]
        rows = [
            {"one": [""], "three": ["high"], "two": ["low"]}, {"one": [""], "two": ["low"]}, {"two": ["low"]}, {},
        ]
        self.assertEqual(library.log(), log)
        self.assertIsNone(library.back())
        self.assertEqual(state_of(library), [[("one", ["high"]), ("three", ["high"]), ("two", ["low"])], log[:4]])
        for many, row in zip([3, 2, 1, 0], rows):
            library.back()
            self.assertEqual(state_of(library), [sorted(row.items()), log[:many]])
        for _ in range(2):
            self.assertRaises(NothingToUndo, library.back)
            self.assertEqual(state_of(library), [[], []])

    def test_nothing_to_undo(self):
        self.assertRaises(NothingToUndo, Library(HORN).back)

    def test_deeds_that_raised_an_error(self):
        library = Library(HORN)
        library.put("one", ["low"])
        deeds = [
            lambda: library.put("one", ["high"]), lambda: library.put("Two", ["high"]), lambda: library.put("two", []),
            lambda: library.drop("two"), lambda: library.change("two", ["low"]), lambda: library.alike([]),
            lambda: library.change("one", ["tone"]), lambda: library.cells_of("two"),
        ]
        for deed in deeds:
            self.assertRaises(HeldError, deed)
            self.assertEqual(state_of(library), [[("one", ["low"])], [("put", "one")]])
        library.back()
        self.assertRaises(NothingToUndo, library.back)

    def test_copies_go_on_independently(self):
        library = filled()
        twin = library.copy()
        self.assertIsInstance(twin, Library)
        self.assertEqual([twin, state_of(twin), twin.program()], [library, state_of(library), HORN])
        twin.back()
        twin.change("two", ["high"])
        twin.put("five", ["high"])
        self.assertEqual([state_of(library), library.names()], [state_of(filled()), ["one", "three", "two"]])
        for _ in range(3):
            library.back()
        self.assertEqual(state_of(twin)[0], [("five", ["high"]), ("one", [""]), ("two", ["high"])])
        self.assertEqual(twin.log(), [("put", "two"), ("put", "one"), ("change", "two"), ("put", "five")])
        for _ in range(4):
            twin.back()
        self.assertEqual(twin, library)
        self.assertRaises(NothingToUndo, twin.back)
        self.assertRaises(NothingToUndo, library.copy().back)


class Drawn(unittest.TestCase):
    """Over programs and deeds drawn with a fixed seed."""

    def test_quiet_and_alike(self):
        chance = random.Random(71)
        found = {"quiet": 0, "not quiet": 0, "alike": 0, "not alike": 0}
        for number in range(150):
            program = few_program(chance, number % 2 == 0)
            # The last functions hold fewer names of their own.
            program = Program(program.names(), program.worths(), program.functions()[::-1])
            main = program.functions()[0][0]
            library = Library(program)
            cells = chance.sample(all_cells(program), min(8, len(all_cells(program))))
            kept = dict(zip(chance.sample("abcdefgh", 8), cells))
            for name, worths in kept.items():
                library.put(name, worths)
            quiet = [name for name in sorted(kept) if bare_from(program, main, kept[name]) is None]
            self.assertEqual(library.quiet(), quiet)
            other = chance.choice(all_cells(program))
            alike = [name for name in sorted(kept) if apart(program, main, kept[name], other) is None]
            self.assertEqual(library.alike(other), alike)
            found["quiet"] += len(quiet)
            found["not quiet"] += len(kept) - len(quiet)
            found["alike"] += len(alike)
            found["not alike"] += len(kept) - len(alike)
        self.assertGreater(min(found.values()), 100, found)

    def test_deeds(self):
        chance = random.Random(72)
        found = {"put": 0, "drop": 0, "change": 0, "back": 0, "copy": 0, "error": 0}
        for _ in range(60):
            pairs = [(Library(HORN), [(None, {})])]
            for _ in range(30):
                library, done = chance.choice(pairs)
                word = chance.choice(["put", "put", "drop", "change", "back", "copy"])
                try:
                    self.deed(chance, word, library, done, pairs)
                except HeldError:
                    word = "error"
                found[word] += 1
                for other, kept in pairs:
                    log = [deed for deed, _ in kept[1:]]
                    self.assertEqual(state_of(other), [sorted(kept[-1][1].items()), log])
                    self.assertEqual([list(other), len(other)], [sorted(kept[-1][1]), len(kept[-1][1])])
        self.assertGreater(min(found.values()), 50, found)

    def deed(self, chance, word, library, done, pairs):
        name, cells = chance.choice("abcd"), chance.choice(all_cells(HORN))
        kept = dict(done[-1][1])
        if word == "copy":
            pairs.append((library.copy(), list(done)))
        elif word == "back":
            library.back()
            done.pop()
        elif word == "drop":
            library.drop(name)
            del kept[name]
            done.append(((word, name), kept))
        else:
            [library.put, library.change][word == "change"](name, cells)
            kept[name] = cells
            done.append(((word, name), kept))


if __name__ == "__main__":
    unittest.main()
