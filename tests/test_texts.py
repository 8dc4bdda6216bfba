import random
import re
import unittest

from draw import drawn_program, values_with_programs
from heldnames.errors import HeldError, InvalidProgram, InvalidText
from heldnames.live import Live
from heldnames.programs import Program
from heldnames.texts import read_program, text_of
from test_cells import HORN, one
from test_programs import EVERY, Caught, every

HEAD = "names a b\nworths x y\n"


def nested(deep, word="loop"):
    """Return a body in which a step with a body is within as many others, less one."""
    body = []
    for _ in range(deep):
        body = [(word, body)]
    return body


class TextOf(Caught):
    """[70]."""

    def test_lines(self):
        program = Program(["b", "a"], ["y", "x", "z"], [("g", []), ("a", []), ("f", [])])
        lines = ["names b a", "worths y x z", "function g { }", "function a { }", "function f { }"]
        self.assertEqual(text_of(program), "\n".join(lines))
        self.assertEqual(text_of(program=Program(["a"], ["x"], [("f", [])])), "names a\nworths x\nfunction f { }")

    def test_each_step(self):
        steps = [
            (("hold", "a", "x", []), "hold a x { }"), (("hold", "a", "b", []), "hold a b { }"),
            (("hold", None, "b", [("raise",)]), "hold _ b { raise }"), (("set", "a", "x"), "set a x"),
            (("set", None, "a"), "set _ a"), (("say", "b"), "say b"), (("call", "f"), "call f"),
            (("either", [], []), "either { } or { }"), (("either", [("say", "a")], []), "either { say a } or { }"),
            (("either", [], [("say", "a")]), "either { } or { say a }"), (("loop", []), "loop { }"),
            (("when", "a", "y", [], []), "when a y { } or { }"),
            (("when", "a", "y", [("raise",)], [("say", "a")]), "when a y { raise } or { say a }"),
            (("raise",), "raise"), (("guard", [("loop", [])]), "guard { loop { } }"),
        ]
        for step, text in steps:
            self.assertEqual(text_of(one([step])), HEAD + "function f { " + text + " }")
            self.assertEqual(text_of(one([step, ("raise",), step])), HEAD + f"function f {{ {text} raise {text} }}")

    def test_steps_within_steps(self):
        first = "function f { hold a x { say a hold _ a { } } set b a set _ y either { call g raise } or "
        first += "{ loop { say b } } when a y { call f } or { guard { raise } } }"
        lines = [first, "function g { }", "function a { call x }", "function x { set a x }"]
        self.assertEqual(text_of(every()), HEAD + "\n".join(lines))

    def test_deep_and_large_bodies(self):
        self.assertEqual(text_of(one(nested(12))), HEAD + "function f { " + "loop { " * 12 + "} " * 12 + "}")
        self.assertEqual(text_of(one([("say", "a")] * 1000)), HEAD + "function f { " + "say a " * 1000 + "}")

    def test_no_program(self):
        for value in values_with_programs() + [text_of(HORN), Live(HORN)]:
            self.raises(InvalidProgram, value, text_of, value)


class ReadProgram(Caught):
    """[71]: texts of programs."""

    def checks(self, text, program):
        read = read_program(text)
        self.assertIsInstance(read, Program)
        self.assertEqual(read, program)

    def test_what_is_written_is_read(self):
        for program in [every(), HORN, one([]), one([("guard", EVERY[:3])]), one(nested(7))]:
            self.checks(text_of(program), program)
            self.assertEqual(read_program(text=text_of(program)), program)

    def test_results_are_new(self):
        read = read_program(HEAD + "function f { loop { } }")
        read.functions()[0][1].clear()
        self.assertEqual(read, read_program(HEAD + "function f { loop { } }"))

    def test_any_number_of_blanks(self):
        wanted = every()
        rows = [line.split(" ") for line in text_of(wanted).split("\n")]
        for many in range(4):
            blanks = " " * many
            lines = [blanks + (" " + blanks).join(row) + blanks for row in rows]
            self.checks("\n".join(lines), wanted)

    def test_no_blanks_where_none_are_needed(self):
        text = HEAD + "function f{hold a x{say a hold _ a{}}set b a set _ y either{call g raise}or{loop{say b}}"
        text += "when a y{call f}or{guard{raise}}}\nfunction g{}\nfunction a{call x}\nfunction x{set a x}"
        self.checks(text, every())
        # "_" is no word.
        body = [("set", None, "x"), ("hold", None, "b", [("set", None, "a")])]
        self.checks(HEAD + "function f{set_x hold_b{set _a}}", one(body))

    def test_lines_without_a_token(self):
        lines = text_of(every()).split("\n")
        for empty in ["", " ", "     "]:
            for number in range(len(lines) + 1):
                more = list(lines)
                more[number:number] = [empty] * (1 + number % 3)
                self.checks("\n".join(more), every())
            self.checks("\n".join([empty] + [part for line in lines for part in (line, empty, empty)]), every())

    def test_words_of_lines_and_steps_as_names(self):
        names, worths = ["names", "or", "say"], ["worths", "function", "when"]
        body = [
            ("hold", "or", "worths", [("say", "or")]), ("set", "say", "say"), ("set", None, "function"), ("say", "say"),
            ("call", "raise"), ("call", "or"), ("when", "or", "when", [("say", "or")], [("say", "or")]),
            ("either", [("say", "or")], [("set", "or", "or")]),
        ]
        program = Program(names, worths, [("function", body), ("raise", []), ("or", [("raise",)]), ("names", body)])
        self.checks(text_of(program), program)
        program = Program(["a"], ["x"], [("hold", []), ("set", []), ("loop", [("call", "loop")]), ("worths", [])])
        self.checks(text_of(program), program)
        program = Program(["either", "guard"], ["loop", "call"], [("or", [("hold", "guard", "either", [("raise",)])])])
        self.checks(text_of(program), program)

    def test_most_names(self):
        functions = [(function, [("call", "abcdefgh")]) for function in ["abcdefgh", "g", "h", "i"]]
        program = Program(["a", "b", "cccccccc"], ["x", "y", "zzzzzzzz"], functions)
        self.checks(text_of(program), program)

    def test_eight_braces_and_nine(self):
        for word in ["loop", "guard"]:
            self.checks(text_of(one(nested(7, word))), one(nested(7, word)))
            self.raises(InvalidText, text := text_of(one(nested(8, word))), read_program, text)
        # They count in each line, and as many as are open at once.
        body = nested(7) * 3 + [("loop", nested(6) * 2)]
        program = Program(["a"], ["x"], [("f", body), ("g", body)])
        self.checks(text_of(program), program)
        for step in [("hold", "a", "x", nested(7)), ("either", [], nested(7)), ("either", nested(7), []),
            ("when", "a", "x", nested(7), []), ("when", "a", "x", [], nested(7))]:
            self.raises(InvalidText, text := text_of(one([step])), read_program, text)
            shorter = step[:-2] + tuple(nested(6) if part == nested(7) else part for part in step[-2:])
            self.checks(text_of(one([shorter])), one([shorter]))
        for many in [9, 12, 500, 2900]:
            self.raises(InvalidText, text := HEAD + "function f" + "{" * many, read_program, text)
            self.raises(InvalidText, text := HEAD + "function f" + "{loop" * many + "}" * many, read_program, text)


class NoText(Caught):
    """[71]: values that are no texts of programs."""

    def refuses(self, *texts):
        for text in texts:
            self.raises(InvalidText, text, read_program, text)

    def body(self, *bodies):
        self.refuses(*[HEAD + "function f { " + body + " }" for body in bodies])

    def test_other_values(self):
        text = text_of(HORN)
        lines = text.split("\n")
        self.refuses(*values_with_programs(), HORN, Live(HORN), [text], (text,), lines, tuple(lines), {text: text})

    def test_other_signs(self):
        text = text_of(HORN)
        read_program(text)
        for sign in "\t\r\f\v\0A1Z9.,;:-+()[]<>|'\"\\/#*\u00e4\u00a0\u2028\u0430":
            self.refuses(text + sign, sign + text, text.replace("{", "{" + sign, 1), text.replace("\n", sign + "\n", 1))
            self.refuses(text.replace("tone", "to" + sign + "ne"), text.replace("tone", "tone" + sign))
        self.refuses(text.replace("\n", "\r\n"), text.replace(" ", "\t"), text.upper(), text.title())

    def test_signs_of_tokens_where_they_do_not_belong(self):
        text = text_of(HORN)
        for sign in ["_", "{", "}", " {}", " { }", "x", " x"]:
            self.refuses(text + sign, text.replace("worths", sign + "\nworths"), sign + text)
        self.refuses(text.replace("names tone", "names tone _"), text.replace("names tone", "names _"))
        self.refuses(text.replace("names tone", "names { tone }"), text.replace("worths low", "worths _ low"))

    def test_a_missing_blank(self):
        self.refuses(HEAD.replace("a b", "ab") + "function f { say a }", HEAD + "functionf { }")
        self.refuses("namesa\nworths x\nfunction f { }", "names a\nworthsx\nfunction f { }")
        self.body("saya", "say araise", "callf", "seta x", "set ax", "raise raiseraise", "say aset b x")
        self.body("holda x { }", "hold ax { }", "whena x { } or { }", "when ax { } or { }", "raisesay a")

    def test_lines_in_another_order_or_number(self):
        names, worths, function = "names a", "worths x", "function f { }"
        read_program("\n".join([names, worths, function]))
        rows = [
            [worths, names, function], [names, function, worths], [function, names, worths], [names, worths],
            [names, function], [worths, function], [function], [names], [], [names, names, worths, function],
            [names, worths, worths, function], [names, worths, function, names], [names, worths, function, worths],
            [names, worths, function, function], ["names", "a", worths, function], [names, worths, "function f {", "}"],
            [names, worths, "function f", "{ }"], [names, worths, "function", "f { }"],
            [names + " " + worths, function], [names, worths + " " + function],
            [names, worths, function + " function g { }"], [names, worths, "{ }"], [names, worths, "f { }"],
        ]
        self.refuses(*["\n".join(row) for row in rows], *[" \n".join(row) + "\n\n" for row in rows])
        five = [f"function {name} {{ }}" for name in "fghij"]
        read_program("\n".join([names, worths] + five[:4]))
        self.refuses("\n".join([names, worths] + five))

    def test_names_and_worths_that_do_not_fit(self):
        function = "\nfunction f { }"
        heads = [
            "names\nworths x", "names a\nworths", "names a a\nworths x", "names a\nworths x x", "names a\nworths a",
            "names a b c d\nworths x", "names a\nworths w x y z", "names abcdefghi\nworths x",
            "names a\nworths abcdefghi",
        ]
        self.refuses(*[head + function for head in heads])
        read_program("names abcdefgh\nworths bcdefghi" + function)

    def test_functions_that_do_not_fit(self):
        functions = [
            "abcdefghi { }", "{ }", "_ { }", "f", "f {", "f }", "f { } }", "f { { } }", "f { } { }", "f { } f",
            "f g { }", "{ { }", "} { }", "f _ { }", "f } {", "{ } { }", "f { } _", "",
        ]
        self.refuses(*[HEAD + "function " + function for function in functions])

    def test_a_thing_too_few_or_too_many(self):
        self.body("hold a x", "hold a { }", "hold x { }", "hold { }", "hold", "hold a x {", "hold a x }")
        self.body("hold a x { } { }", "hold a x { } or { }", "hold a x y { }", "hold a _ x { }")
        self.body("set a", "set", "set _", "set a x x", "set a x { }", "set a x _", "set { }")
        self.body("say", "say a a", "say a { }", "say a x", "say { }", "call", "call f f", "call f { }", "call { }")
        self.body("raise { }", "raise a", "raise or", "or", "or { }", "{ }", "_", "_ raise", "{", "}")
        self.body("either", "either { }", "either { } { }", "either { } or", "either or { }", "either or")
        self.body("either { } or { } or { }", "either { } or { } { }", "either { } _ { }", "either { } raise { }")
        self.body("either a { } or { }", "either { } or a { }", "either { } or or { }", "either { } or { raise")
        self.body("loop", "loop { } { }", "loop { } or { }", "loop a { }", "loop loop")
        self.body("guard", "guard { } { }", "guard { } or { }", "guard a { }", "guard raise")
        self.body("when a x { }", "when a x { } { }", "when a { } or { }", "when x { } or { }", "when { } or { }")
        self.body("when a x", "when a x y { } or { }", "when a x { } or { } or { }", "when a x or { }")
        self.body("when a x { } or", "when a x { } or { } { }")

    def test_a_brace_too_few_or_too_many(self):
        text = text_of(every())
        for at, sign in enumerate(text):
            if sign in "{}":
                self.refuses(text[:at] + text[at + 1:], text[:at] + sign + text[at:])
                self.refuses(text[:at] + {"{": "}", "}": "{"}[sign] + text[at + 1:])

    def test_words_that_do_not_fit(self):
        self.body("hold c x { }", "hold x x { }", "hold a f { }", "hold a _ { }", "hold _ _ { }", "hold or x { }")
        self.body("set c x", "set x a", "set a z", "set a _", "set _ _", "set _ f", "say _", "say x", "say c", "say f")
        self.body("call _", "call a", "call g", "call x", "when _ x { } or { }", "when a b { } or { }")
        self.body("when x x { } or { }", "when a _ { } or { }", "drop", "end", "bare", "holds a x { }", "says a")
        self.body("a", "x", "f", "names", "function", "abcdefghi", "say abcdefghi", "call abcdefghi")
        self.body("hold abcdefghi x { }", "set a abcdefghi")


def plainly_read(text):
    """Return the lists that make the program of a text, or None, by putting what is innermost together first."""
    if not re.fullmatch(r"[a-z_{} \n]*", text):
        return None
    rows = [re.findall(r"[a-z]+|[_{}]", line) for line in text.split("\n")]
    rows = [row for row in rows if row]
    if len(rows) < 3 or rows[0][0] != "names" or rows[1][0] != "worths":
        return None
    functions = []
    for row in rows[2:]:
        depth = 0
        for token in row:
            depth += {"{": 1, "}": -1}.get(token, 0)
            if depth > 8:
                return None
        bodies = []
        left = " ".join(row)
        while True:
            found = re.search(r"\{([^{}]*)\}", left)
            if not found:
                break
            steps = plain_steps(found.group(1).strip(), bodies)
            if steps is None:
                return None
            bodies.append(steps)
            left = left[:found.start()] + str(len(bodies) - 1) + left[found.end():]
        found = re.fullmatch(r"function ([a-z_]+) ([0-9]+)", left)
        if not found:
            return None
        functions.append((found.group(1), bodies[int(found.group(2))]))
    return rows[0][1:], rows[1][1:], functions


def plain_steps(text, bodies):
    """Return the steps of a text in which each body is a number, or None."""
    word, maybe, body = r"([a-z]+)", r"([a-z]+|_)", r"([0-9]+)"
    kinds = [
        f"(hold) {maybe} {word} {body}", f"(set) {maybe} {word}", f"(say) {word}", f"(call) {word}",
        f"(either) {body} or {body}", f"(loop) {body}", f"(when) {word} {word} {body} or {body}", "(raise)",
        f"(guard) {body}",
    ]
    steps = []
    while text:
        for kind in kinds:
            found = re.match(kind + r"(?: |$)", text)
            if found:
                parts = [bodies[int(part)] if part.isdigit() else part for part in found.groups()]
                if parts[0] in ("hold", "set") and parts[1] == "_":
                    parts[1] = None
                steps.append(tuple(parts))
                text = text[found.end():]
                break
        else:
            return None
    return steps


class Drawn(unittest.TestCase):
    """Texts drawn with a fixed seed, beside a plain reader."""

    def test_texts_with_any_blanks(self):
        chance = random.Random(61)
        for _ in range(300):
            program = drawn_program(chance, 9, 4)
            lines = []
            for line in text_of(program).split("\n"):
                tokens = re.findall(r"[a-z]+|[_{}]", line)
                text = " " * chance.randint(0, 2)
                for token, behind in zip(tokens, tokens[1:] + [""]):
                    few = 1 if token.isalpha() and behind.isalpha() else 0
                    text += token + " " * chance.choice([few, few, 1, 3])
                lines += [text] + [" " * chance.randint(0, 1)] * chance.choice([0, 0, 1, 2])
            self.assertEqual(read_program("\n".join(lines)), program)

    def test_texts_with_faults(self):
        chance = random.Random(62)
        found = {True: 0, False: 0}
        others = ["{", "}", "_", "\n", " ", "or", "raise", "say", "loop {", "hold", "set", "f", "g", "a", "x", "{ }"]
        others.append("function")
        for _ in range(4000):
            tokens = re.findall(r"[a-z]+|[_{}\n]", text_of(drawn_program(chance, 5, 4)))
            for _ in range(chance.randint(1, 2)):
                at = chance.randrange(len(tokens))
                deed = chance.random()
                if deed < 0.3:
                    del tokens[at]
                elif deed < 0.5:
                    tokens.insert(at, chance.choice(others + tokens))
                elif deed < 0.8:
                    tokens[at] = chance.choice(others + tokens)
                else:
                    other = chance.randrange(len(tokens))
                    tokens[at], tokens[other] = tokens[other], tokens[at]
            text = " ".join(tokens)
            found[self.check(text)] += 1
        self.assertGreater(min(found.values()), 100, found)

    def check(self, text):
        """Check that a text is read as the plain reader does, and return whether it is the text of a program."""
        parts = plainly_read(text)
        try:
            wanted = None if parts is None else Program(*parts)
        except HeldError:
            wanted = None
        try:
            read = read_program(text)
        except InvalidText as error:
            self.assertIs(error.value, text)
            read = None
        self.assertEqual(read, wanted, text)
        return read is not None


if __name__ == "__main__":
    unittest.main()
