"""The examples of the document, word for word, with the answers below them."""

import unittest

RUNS = '''
from heldnames.programs import Program
from heldnames.runs import cells_of, holders_of, next_events
body = [("hold", "tone", "low", [("call", "talk")]), ("say", "tone")]
talk = [("when", "tone", "low", [("set", "tone", "high"), ("call", "talk")], [("say", "tone")])]
horn = Program(["tone"], ["low", "high"], [("main", body), ("talk", talk)])
run = [("hold", ("main", (0,))), ("call", ("main", (0, 0))), ("set", ("talk", (0, 0, 0))), ("call", ("talk", (0, 0, 1)))]
some = Program(["a"], ["x"], [("f", [("either", [], [("set", None, "a")])])])
[cells_of(horn, run), holders_of(horn, run), next_events(horn, run), next_events(horn, run + [("say", ("talk", (0, 1, 0)), "high")]), next_events(some, [])]
# [['high'], [('tone', 'high')], [('say', ('talk', (0, 1, 0)), 'high')], [('end', 'talk')], [('bare', ('f', (0, 1, 0))), ('end', 'f')]]
'''

CELLS = '''
from heldnames.cells import met, run_to, table, ways_out
from heldnames.programs import Program
body = [("hold", "tone", "low", [("call", "talk")]), ("say", "tone")]
talk = [("when", "tone", "low", [("set", "tone", "high"), ("call", "talk")], [("say", "tone")])]
horn = Program(["tone"], ["low", "high"], [("main", body), ("talk", talk)])
[met(horn, ("talk", (0,))), len(run_to(horn, ("talk", (0, 1, 0)), ["high"])), run_to(horn, ("main", (1,)), ["low"]), ways_out(horn, "talk", [""]), table(horn)]
# [[['high'], ['low']], 4, None, [], [('main', [''], []), ('talk', ['high'], [('end', ['high'])]), ('talk', ['low'], [('end', ['high'])])]]
'''

TURNS = '''
from heldnames.cells import met, run_to, table, ways_out
from heldnames.programs import Program
body = [("guard", [("hold", "a", "y", [("call", "g")])]), ("hold", "a", "y", [("guard", [("call", "g")]), ("say", "a")])]
turns = Program(["a"], ["x", "y"], [("main", body), ("g", [("set", "a", "x"), ("raise",)])])
rounds = Program(["a"], ["x", "y"], [("f", [("hold", "a", "x", [("loop", [("set", "a", "y")])])])])
[ways_out(turns, "g", ["y"]), ways_out(turns, "g", [""]), table(turns), met(rounds, ("f", (0, 0))), met(rounds, ("f", (0,))), run_to(rounds, ("f", (0, 0)), ["y"])]
# [[('raise', ['x'])], [], [('g', ['y'], [('raise', ['x'])]), ('main', [''], [('end', [''])])], [['x'], ['y']], [['']], [('hold', ('f', (0,))), ('set', ('f', (0, 0, 0)))]]
'''

ASKED = '''
from heldnames.asked import idle, muted, writers
from heldnames.programs import Program
inner = [("set", "a", "one"), ("hold", "a", "two", [("say", "a")]), ("set", "a", "b")]
pair = Program(["a", "b"], ["one", "two"], [("main", [("hold", "b", "two", [("hold", "a", "one", [("call", "f"), ("say", "b")])])]), ("f", inner)])
[writers(pair, ("f", (1, 0)), "a"), writers(pair, ("f", (2,)), "a"), idle(pair), idle(muted(pair, idle(pair)))]
# [[('f', (1,))], [('f', (0,))], [('f', (0,)), ('f', (2,))], [('main', (0, 0))]]
'''

TAKEN = '''
from heldnames.programs import Program
from heldnames.taken import apart, gives, takes
inner = [("set", "a", "one"), ("hold", "a", "two", [("say", "a")]), ("set", "a", "b")]
pair = Program(["a", "b"], ["one", "two"], [("main", [("call", "f")]), ("f", inner)])
[takes(pair, "f"), gives(pair, "f"), apart(pair, "f", ["one", "two"], ["two", "two"]), len(apart(pair, "f", ["", "two"], ["two", "two"]))]
# [['b'], ['a'], None, 1]
'''

SHAPES = '''
from heldnames.asked import idle, muted
from heldnames.pairs import first_unlike
from heldnames.programs import Program
from heldnames.spared import spared
body = [("hold", "tone", "low", [("hold", "tone", "tone", [("say", "tone")]), ("set", "tone", "low"), ("say", "tone")])]
bell = Program(["tone"], ["low", "high"], [("main", body)])
[idle(bell), spared(bell), first_unlike(bell, muted(bell, [("main", (0, 0))])), len(first_unlike(bell, muted(bell, [("main", (0,))])))]
# [[], [('main', (0, 0)), ('main', (0, 1))], None, 2]
'''

BEGUN = '''
from heldnames.begun import bare_from, begun, says_from
from heldnames.programs import Program
body = [("hold", "tone", "low", [("call", "talk")]), ("say", "tone")]
talk = [("when", "tone", "low", [("set", "tone", "high"), ("call", "talk")], [("say", "tone")])]
horn = Program(["tone"], ["low", "high"], [("main", body), ("talk", talk)])
[bare_from(horn, "main", [""])[-1], bare_from(horn, "main", ["high"]), says_from(horn, "main", ["high"]), begun(horn, "talk", ["low"]).functions()[0]]
# [('bare', ('main', (1,))), None, [(('main', (1,)), 'high'), (('talk', (0, 1, 0)), 'high')], ('begin', [('hold', 'tone', 'low', [('call', 'talk')])])]
'''

TEXTS = r'''
from heldnames.programs import Program
from heldnames.texts import read_program, text_of
body = [("hold", "tone", "low", [("call", "talk")]), ("say", "tone")]
talk = [("when", "tone", "low", [("set", "tone", "high"), ("call", "talk")], [("say", "tone")])]
horn = Program(["tone"], ["low", "high"], [("main", body), ("talk", talk)])
[text_of(horn).split("\n"), read_program("names a\nworths b\n\nfunction f{hold _ b{raise}}").functions()]
# [['names tone', 'worths low high', 'function main { hold tone low { call talk } say tone }', 'function talk { when tone low { set tone high call talk } or { say tone } }'], [('f', [('hold', None, 'b', [('raise',)])])]]
'''


class Examples(unittest.TestCase):
    def check(self, text):
        *rows, asked, answer = text.strip("\n").split("\n")
        scope = {}
        exec("\n".join(rows), scope)
        self.assertEqual("# " + repr(eval(asked, scope)), answer)

    def test_section_4(self):
        self.check(RUNS)

    def test_section_5_first(self):
        self.check(CELLS)

    def test_section_5_second(self):
        self.check(TURNS)

    def test_section_6(self):
        self.check(ASKED)

    def test_section_7(self):
        self.check(TAKEN)

    def test_sections_8_and_9(self):
        self.check(SHAPES)

    def test_section_10(self):
        self.check(BEGUN)

    def test_section_12(self):
        self.check(TEXTS)


if __name__ == "__main__":
    unittest.main()
