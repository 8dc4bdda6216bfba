"""[35], [36], [40] and [45] against a slow search in lockstep, over programs drawn with a fixed seed."""

import random
import unittest
from itertools import product

from draw import few_program, handing_program, held_and_set, reshaped, sure_program
from heldnames.asked import muted
from heldnames.cells import ways_out
from heldnames.pairs import first_unlike
from heldnames.spared import spared
from heldnames.taken import apart, gives, takes
from plain import Lockstep, Plain, Seen, goes
from test_against_plain import all_cells

# How many configurations, or pairs of them, a search goes through, at first and where more is to be found.
MOST = 200
MORE = 5000


def some_programs(seed, many):
    """Return programs drawn at random, half of them without recursion."""
    chance = random.Random(seed)
    return [few_program(chance, number % 2 == 0) for number in range(many)]


def unlike_numbers(one, two):
    return [number for number, (worth, other) in enumerate(zip(one, two)) if worth != other]


class Drawn(unittest.TestCase):
    def check_list(self, lockstep, one, two, events):
        """Check a list of events that just one of two can have; each is a tuple of a plain program and its start."""
        if events is None:
            self.assertIsNone(lockstep.least)
            return "alike" if lockstep.whole is None else "alike as far as known"
        self.assertNotEqual(goes(*one, events), goes(*two, events))
        self.assertTrue(goes(*one, events[:-1]) and goes(*two, events[:-1]))
        if lockstep.least is None:
            self.assertIsNotNone(lockstep.whole)
            self.assertGreater(len(events), lockstep.whole)
            return "unlike, far"
        self.assertEqual(len(events), lockstep.least)
        return "unlike" if len(events) < 4 else "unlike later"

    def test_apart(self):
        chance = random.Random(21)
        found = {"alike": 0, "alike as far as known": 0, "unlike": 0, "unlike later": 0}
        for program in some_programs(22, 300):
            plain = Plain(program)
            for function in plain.functions:
                for cells, other in chance.sample(list(product(all_cells(program), repeat=2)), 4):
                    one, two = plain.frame(function, cells), plain.frame(function, other)
                    lockstep = Lockstep(plain, one, plain, two, MOST)
                    events = apart(program, function, cells, other)
                    kind = self.check_list(lockstep, (plain, one), (plain, two), events)
                    found[kind] = found.get(kind, 0) + 1
                    back = apart(program, function, other, cells)
                    self.assertEqual(events is None, back is None)
                    self.assertTrue(events is None or len(events) == len(back))
        self.assertGreater(min(found.values()), 20, found)

    def test_takes(self):
        found = {"taken": 0, "not taken": 0, "by what is left": 0, "known in part": 0}
        chance = random.Random(31)
        for program in some_programs(23, 150) + [handing_program(chance) for _ in range(60)]:
            plain = Plain(program)
            for function in plain.functions:
                told = takes(program, function)
                self.assertEqual(told, [name for name in program.names() if name in told])
                for number, name in enumerate(program.names()):
                    found[self.check_taken(plain, all_cells(program), function, number, name in told)] += 1
        self.assertGreater(min(found.values()), 15, found)

    def check_taken(self, plain, cells, function, number, told, most=MOST):
        goings, left, whole = False, False, True
        for one, two in product(cells, repeat=2):
            if unlike_numbers(one, two) == [number] and "" not in (one[number], two[number]):
                starts = plain.frame(function, one), plain.frame(function, two)
                lockstep = Lockstep(plain, starts[0], plain, starts[1], most)
                goings = goings or lockstep.least is not None
                for behind in lockstep.left:
                    left = left or unlike_numbers(*behind) not in ([], [number])
                whole = whole and lockstep.whole is None
        if told and not (goings or left or whole) and most < MORE:
            return self.check_taken(plain, cells, function, number, told, MORE)
        self.assertEqual(told, goings or left)
        if goings or left:
            return "taken" if goings else "by what is left"
        return "not taken" if whole else "known in part"

    def test_gives(self):
        found = {"given": 0, "not given": 0, "known in part": 0}
        for program in some_programs(24, 200):
            plain = Plain(program)
            for function in plain.functions:
                told = gives(program, function)
                given, whole = set(), True
                for cells in all_cells(program):
                    seen = Seen(plain, plain.frame(function, cells), MOST)
                    whole = whole and seen.whole is None
                    for _, after in seen.ways:
                        given |= {program.names()[number] for number in unlike_numbers(cells, after)}
                self.assertEqual(given - set(told), set())
                self.assertEqual(told, [name for name in program.names() if name in told])
                if whole:
                    self.assertEqual(set(told), given)
                found["known in part"] += not whole
                found["given"] += len(told)
                found["not given"] += len(program.names()) - len(told)
        self.assertGreater(min(found.values()), 30, found)

    def test_what_is_taken_is_all_that_has_to_be_handed_over(self):
        """From cells that are equal for the names taken goings are the same, and what else is left is, too."""
        chance = random.Random(25)
        many = 0
        for program in some_programs(26, 250):
            plain = Plain(program)
            for function in plain.functions:
                taken = [program.names().index(name) for name in takes(program, function)]
                cells = all_cells(program)
                alike = [
                    (one, two) for one, two in product(cells, repeat=2)
                    if one != two and [worth == "" for worth in one] == [worth == "" for worth in two]
                    and [number for number in unlike_numbers(one, two) if number in taken] == []
                ]
                for one, two in chance.sample(alike, min(3, len(alike))):
                    self.check_alike(plain, function, one, two)
                    many += 1
        self.assertGreater(many, 300)

    def check_alike(self, plain, function, one, two):
        lockstep = Lockstep(plain, plain.frame(function, one), plain, plain.frame(function, two), MOST)
        self.assertIsNone(lockstep.least)
        for behind, other in lockstep.left:
            for number in unlike_numbers(behind, other):
                self.assertEqual((behind[number], other[number]), (one[number], two[number]))
                self.assertNotEqual(one[number], two[number])

    def test_names_that_are_not_given_are_left_as_they_were(self):
        for program in some_programs(27, 100):
            for function, _ in program.functions():
                told = gives(program, function)
                found = set()
                for cells in all_cells(program):
                    for _, after in ways_out(program, function, cells):
                        found |= {program.names()[number] for number in unlike_numbers(cells, after)}
                self.assertEqual(set(told), found)

    def test_first_unlike(self):
        chance = random.Random(28)
        found = {"alike": 0, "alike as far as known": 0, "unlike": 0, "unlike later": 0}
        for program in some_programs(29, 600):
            other = reshaped(chance, program, chance.randint(0, 3))
            plain, twin = Plain(program), Plain(other)
            lockstep = Lockstep(plain, plain.start(), twin, twin.start(), MOST)
            events = first_unlike(program, other)
            kind = self.check_list(lockstep, (plain, plain.start()), (twin, twin.start()), events)
            found[kind] = found.get(kind, 0) + 1
        self.assertGreater(min(found.values()), 30, found)

    def test_long_lists(self):
        """Programs that leave nothing to choice have a single run, which can be followed far."""
        chance = random.Random(32)
        lengths = []
        for _ in range(90):
            program = sure_program(chance)
            other = reshaped(chance, program, 1)
            function = chance.choice(program.functions())[0]
            cells = chance.sample([cells for cells in all_cells(program) if "" not in cells], 2)
            plain, twin = Plain(program), Plain(other)
            asked = [((plain, plain.start()), (twin, twin.start()), first_unlike(program, other))]
            frames = [plain.frame(function, worths) for worths in cells]
            asked.append(((plain, frames[0]), (plain, frames[1]), apart(program, function, *cells)))
            for one, two, events in asked:
                lockstep = Lockstep(*one, *two, 2000)
                if events is not None and len(events) <= 2000:
                    self.check_list(lockstep, one, two, events)
                    lengths.append(len(events))
                else:
                    self.assertIsNone(lockstep.least)
        self.assertGreater(len([many for many in lengths if many > 10]), 10, lengths)
        self.assertGreater(len([many for many in lengths if many > 150]), 4, lengths)

    def test_spared(self):
        found = {"spared": 0, "needed": 0, "known in part": 0}
        for program in some_programs(30, 300):
            told = spared(program)
            self.assertEqual(told, sorted(told))
            named = [place for place, step in held_and_set(program) if step[1] is not None]
            self.assertEqual(set(told) - set(named), set())
            for place in named:
                plain, twin = Plain(program), Plain(muted(program, [place]))
                lockstep = Lockstep(plain, plain.start(), twin, twin.start(), MOST)
                if place in told:
                    self.assertIsNone(lockstep.least)
                    found["spared" if lockstep.whole is None else "known in part"] += 1
                elif lockstep.least is None:
                    self.assertIsNotNone(lockstep.whole)
                    self.assertGreater(len(first_unlike(program, muted(program, [place]))), lockstep.whole)
                else:
                    found["needed"] += 1
        self.assertGreater(min(found.values()), 30, found)


if __name__ == "__main__":
    unittest.main()
