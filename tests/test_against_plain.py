"""[20], [21] and [22] against a slow search through whole stacks, over programs drawn with a fixed seed."""

import random
import unittest
from itertools import product

from draw import WORDS, choosing_program, drawn_program, sure_program
from heldnames.cells import is_table, met, run_to, table, ways_out
from heldnames.programs import Program, places, step_at
from plain import Plain, Seen, is_table_plainly

# How many configurations a search through runs goes through.
MOST = 150


def all_cells(program):
    return [list(cells) for cells in product([""] + program.worths(), repeat=len(program.names()))]


def all_places(program):
    return [place for word in WORDS for place in places(program, word)]


def drawn_programs(seed, many, most=7, deep=4):
    chance = random.Random(seed)
    return [drawn_program(chance, most, deep) for _ in range(many)]


class Drawn(unittest.TestCase):
    def test_what_is_drawn(self):
        """The programs drawn have all that they are to have."""
        found = set()
        for program in drawn_programs(1, 200):
            for place in all_places(program):
                step = step_at(program, place)
                found.add(step[0])
                if step[0] in ("hold", "set"):
                    found.add((step[0], step[1] is None, step[2] in program.names()))
                if step[0] == "call":
                    found.add(("call", step[1] == place[0]))
                if step[0] == "raise":
                    found |= {("raise", word) for word in self.words_around(program, place)}
                if step[0] == "say" and [cells for cells in met(program, place) if "" in cells]:
                    found.add("bare")
        wanted = set(WORDS) | set(product(["hold", "set"], [True, False], [True, False]))
        wanted |= {("call", True), ("call", False), "bare", ("raise", "guard"), ("raise", "hold"), ("raise", "loop")}
        self.assertEqual(wanted - found, set())

    def words_around(self, program, place):
        function, path = place
        every = all_places(program)
        around = [(function, path[:number]) for number in range(1, len(path))]
        return [step_at(program, outer)[0] for outer in around if outer in every]

    def test_met_and_run_to(self):
        found = {"none": 0, "less": 0, "more": 0, "whole": 0}
        for program in drawn_programs(1, 250):
            plain = Plain(program)
            seen = Seen(plain, plain.start(), MOST)
            found["whole"] += seen.whole is None
            for place in all_places(program):
                cells_met = met(program, place)
                self.assertEqual(cells_met, sorted(cells_met))
                for cells in all_cells(program):
                    run = run_to(program, place, cells)
                    self.assertEqual(run is not None, cells in cells_met)
                    found[self.check_run(plain, seen, place, cells, run)] += 1
        self.assertGreater(min(found.values()), 20)

    def test_long_runs(self):
        """Programs that leave nothing to choice have a single run, which can be followed far."""
        chance = random.Random(8)
        lengths = []
        for _ in range(30):
            program = sure_program(chance)
            plain = Plain(program)
            seen = Seen(plain, plain.start(), 3000)
            for (place, cells), many in chance.sample(sorted(seen.least.items()), min(5, len(seen.least))):
                run = run_to(program, place, list(cells))
                self.assertEqual(len(run), many)
                self.assertIsNotNone(plain.walk(run))
                lengths.append(many)
            if seen.whole is None:
                met_plainly = sum(len(met(program, place)) for place in all_places(program))
                self.assertEqual(met_plainly, len(seen.least))
        self.assertGreater(len([many for many in lengths if many > 1000]), 10)

    def test_ways_of_unlike_lengths(self):
        chance = random.Random(9)
        lengths = []
        for _ in range(800):
            program = choosing_program(chance)
            plain = Plain(program)
            run = run_to(program, ("f", (0, 1)), ["x"])
            seen = Seen(plain, plain.start(), 4000)
            self.assertEqual(len(run), seen.least.get((("f", (0, 1)), ("x",)), len(run)))
            self.assertIsNotNone(plain.walk(run))
            lengths.append(len(run))
        self.assertGreater(len([many for many in lengths if many > 6]), 50, lengths)

    def check_run(self, plain, seen, place, cells, run):
        """Check a run to a step, and return what kind of run it is."""
        least = seen.least.get((place, tuple(cells)))
        if run is None:
            self.assertIsNone(least)
            return "none"
        config = plain.walk(run)
        self.assertIsNotNone(config)
        self.assertEqual(plain.cells(config[1]), cells)
        self.assertIn(place, plain.unfold(config)[0])
        if seen.whole is None or len(run) < seen.whole:
            self.assertEqual(len(run), least)
            return "less"
        self.assertTrue(least is None or len(run) == least)
        return "more"

    def test_ways_out(self):
        chance = random.Random(2)
        found = {"whole": 0, "end": 0, "raise": 0}
        for program in drawn_programs(3, 150, 6):
            plain = Plain(program)
            for function in plain.functions:
                for cells in chance.sample(all_cells(program), min(4, len(all_cells(program)))):
                    ways = ways_out(program, function, cells)
                    seen = Seen(plain, plain.frame(function, cells), MOST)
                    self.assertEqual(ways, sorted(ways))
                    told = {(word, tuple(after)) for word, after in ways}
                    self.assertEqual(len(told), len(ways))
                    self.assertEqual(seen.ways - told, set())
                    if seen.whole is None:
                        self.assertEqual(told, seen.ways)
                        found["whole"] += 1
                    for word, after in sorted(told - seen.ways):
                        self.check_way(program, function, cells, word, list(after))
                    for word, _ in told:
                        found[word] += 1
        self.assertGreater(min(found.values()), 50)

    def check_way(self, program, function, cells, word, after):
        """Check by a run of a program around the function that it can be left so."""
        behind = ("set", None, program.worths()[0])
        body = [("call", function), behind]
        if word == "raise" and len(program.functions()) == 3:
            # There is no room for one more function, so it is searched for farther.
            plain = Plain(program)
            self.assertIn((word, tuple(after)), Seen(plain, plain.frame(function, cells), 30 * MOST).ways)
            return
        if word == "raise":
            # Behind this guard only a raise leads.
            body = [("guard", [("call", function), ("call", "halt")]), behind]
        path = (1,)
        for name, worth in reversed(list(zip(program.names(), cells))):
            if worth != "":
                body = [("hold", name, worth, body)]
                path = (0,) + path
        around = [("start", body), ("halt", [("call", "halt")])][:1 if word == "end" else 2]
        wider = Program(program.names(), program.worths(), around + program.functions())
        run = run_to(wider, ("start", path), after)
        config = Plain(wider).walk(run)
        self.assertEqual(Plain(wider).cells(config[1]), after)
        self.assertIn(("start", path), Plain(wider).unfold(config)[0])

    def test_table(self):
        many = 0
        for program in drawn_programs(5, 250):
            rows = table(program)
            self.assertEqual(rows, sorted(rows))
            plain = Plain(program)
            begun = {(plain.functions[0], ("",) * len(plain.names))}
            for place in places(program, "call"):
                for cells in met(program, place):
                    begun.add((step_at(program, place)[1], tuple(cells)))
            self.assertEqual([(function, tuple(cells)) for function, cells, _ in rows], sorted(begun))
            for function, cells, ways in rows:
                self.assertEqual(ways, ways_out(program, function, cells))
            seen = Seen(plain, plain.start(), MOST)
            self.assertEqual(seen.begun - begun, set())
            self.assertTrue(is_table(program, rows))
            self.assertTrue(is_table_plainly(program, rows))
            many += len(rows)
        self.assertGreater(many, 300)

    def test_is_table(self):
        chance = random.Random(6)
        found = {True: 0, False: 0}
        for program in drawn_programs(7, 200, 6):
            for _ in range(8):
                rows = self.changed(chance, program, table(program))
                is_one = is_table_plainly(program, rows)
                self.assertIs(is_table(program, rows), is_one)
                found[is_one] += 1
        self.assertGreater(min(found.values()), 100)

    def changed(self, chance, program, rows):
        """Return rows with some of them, and of their ways, more or less."""
        rows = list(rows)
        for _ in range(chance.randint(1, 3)):
            deed = chance.random()
            cells = chance.choice(all_cells(program))
            if deed < 0.2 and rows:
                rows.pop(chance.randrange(len(rows)))
            elif deed < 0.5:
                function = chance.choice(program.functions())[0]
                ways = ways_out(program, function, cells)
                if (function, cells) not in [row[:2] for row in rows]:
                    rows.append((function, cells, ways[:chance.randint(0, len(ways))] if deed < 0.3 else ways))
            elif rows:
                number = chance.randrange(len(rows))
                function, cells, ways = rows[number]
                ways = list(ways)
                if ways and deed < 0.6:
                    ways.pop(chance.randrange(len(ways)))
                else:
                    after = [chance.choice(program.worths()) if worth else "" for worth in cells]
                    ways.insert(0, (chance.choice(["end", "raise"]), after))
                rows[number] = (function, cells, ways)
        chance.shuffle(rows)
        return rows


if __name__ == "__main__":
    unittest.main()
