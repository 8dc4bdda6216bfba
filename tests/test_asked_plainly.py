"""[30], [31] and [32] against a slow search through whole stacks, over programs drawn with a fixed seed."""

import random
import unittest

from draw import drawn_program, held_and_set
from heldnames.asked import idle, muted, writers
from heldnames.cells import met
from heldnames.pairs import first_unlike
from heldnames.spared import spared
from plain import Lockstep, Plain, Traced
from test_against_plain import all_places

# How many configurations a search through runs goes through, at first and where more is to be found.
MOST = 300
MORE = 6000


def some_programs(seed, many):
    """Return programs drawn at random, half of them without recursion."""
    chance = random.Random(seed)
    return [drawn_program(chance, 8, 4, number % 2 == 0) for number in range(many)]


class Drawn(unittest.TestCase):
    def test_writers(self):
        found = {"whole": 0, "part": 0, "none": 0, "one": 0, "more": 0}
        for program in some_programs(11, 300):
            traced = Traced(program, MOST)
            found["whole" if traced.whole else "part"] += 1
            told = {}
            for place in all_places(program):
                for name in program.names():
                    told[(place, name)] = writers(program, place, name)
            self.check_writers(program, traced, told)
            for places in told.values():
                found[["none", "one", "more"][min(len(places), 2)]] += 1
        self.assertGreater(min(found.values()), 60)

    def check_writers(self, program, traced, told):
        for places in told.values():
            self.assertEqual(places, sorted(set(places)))
        for key, places in traced.writers.items():
            self.assertEqual(places - set(told[key]), set())
        extra = {key for key, places in told.items() if set(places) != traced.writers.get(key, set())}
        if traced.whole:
            self.assertEqual(extra, set())
        elif extra:
            farther = Traced(program, MORE)
            for key in extra:
                self.assertEqual(set(told[key]), farther.writers.get(key, set()))

    def test_writers_where_names_are_bare(self):
        for program in some_programs(12, 100):
            for place in all_places(program):
                cells = met(program, place)
                for number, name in enumerate(program.names()):
                    held = [worths for worths in cells if worths[number] != ""]
                    self.assertEqual(writers(program, place, name) == [], held == [])

    def test_idle(self):
        found = {"whole": 0, "part": 0, "none": 0, "hold": 0, "set": 0, "asked": 0}
        for program in some_programs(13, 300):
            places = idle(program)
            self.assertEqual(places, sorted(places))
            traced = Traced(program, MOST)
            found["whole" if traced.whole else "part"] += 1
            named = [(place, step[0]) for place, step in held_and_set(program) if step[1] is not None]
            unused = {place for place, _ in named} - traced.used
            self.assertEqual(set(places) - unused, set())
            if traced.whole:
                self.assertEqual(set(places), unused)
            elif unused != set(places):
                self.assertEqual(set(places), {place for place, _ in named} - Traced(program, MORE).used)
            for place, word in named:
                found[word if place in places else "asked"] += 1
            found["none"] += not places
        self.assertGreater(min(found.values()), 20)

    def test_idle_ones_muted_at_once(self):
        """With any of the idle ones muted, or all, the runs are the same."""
        chance = random.Random(14)
        many = 0
        for program in some_programs(15, 250):
            places = idle(program)
            for chosen in [places, chance.sample(places, chance.randint(0, len(places)))]:
                other = muted(program, chosen)
                self.assertIsNone(first_unlike(program, other))
                plain, twin = Plain(program), Plain(other)
                self.assertIsNone(Lockstep(plain, plain.start(), twin, twin.start(), MOST).least)
                many += len(chosen)
        self.assertGreater(many, 200)

    def test_idle_ones_muted_in_whatever_order(self):
        chance = random.Random(16)
        longer = 0
        for program in some_programs(17, 150):
            ends = []
            for _ in range(3):
                now = program
                rounds = 0
                while idle(now):
                    places = idle(now)
                    now = muted(now, chance.sample(places, chance.randint(1, len(places))))
                    rounds += 1
                ends.append(now)
            at_once = program
            while idle(at_once):
                at_once = muted(at_once, idle(at_once))
            longer += idle(muted(program, idle(program))) != []
            self.assertTrue(all(end == at_once for end in ends))
            self.assertIsNone(first_unlike(program, at_once))
        self.assertGreater(longer, 5)

    def test_idle_ones_are_spared(self):
        more = 0
        for program in some_programs(18, 150):
            can_go = spared(program)
            self.assertEqual([place for place in idle(program) if place not in can_go], [])
            more += len(can_go) > len(idle(program))
        self.assertGreater(more, 20)


if __name__ == "__main__":
    unittest.main()
