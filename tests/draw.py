"""Small programs drawn with a fixed seed, and values of every kind."""

from heldnames import errors
from heldnames.programs import Program, places, step_at

WORDS = ["hold", "set", "say", "call", "either", "loop", "when", "raise", "guard"]


LEAF_WORDS = ["set", "set", "say", "call", "call", "raise"]
DEEP_WORDS = ["hold", "hold", "hold", "either", "loop", "when", "when", "guard", "guard"]


def drawn_body(chance, names, worths, functions, left, deep):
    """Return a body drawn at random; `left` is a list of the number of steps that may still come."""
    body = []
    for _ in range(chance.randint(0 if deep < 3 else 1, 3)):
        if left[0] <= 0:
            break
        left[0] -= 1
        body.append(drawn_step(chance, names, worths, functions, left, deep))
    return body


def drawn_step(chance, names, worths, functions, left, deep):
    word = chance.choice(LEAF_WORDS + DEEP_WORDS if deep > 1 else LEAF_WORDS)
    if word == "call" and not functions:
        word = "say"
    name = chance.choice(names)
    source = chance.choice(worths + worths + names)
    maybe = None if chance.random() < 0.15 else name

    def inner():
        return drawn_body(chance, names, worths, functions, left, deep - 1)

    if word == "hold":
        return ("hold", maybe, source, inner())
    if word == "set":
        return ("set", maybe, source)
    if word == "say":
        return ("say", name)
    if word == "call":
        return ("call", chance.choice(functions))
    if word == "either":
        return ("either", inner(), inner())
    if word == "when":
        return ("when", name, chance.choice(worths), inner(), inner())
    if word == "raise":
        return ("raise",)
    return (word, inner())


def drawn_program(chance, most=7, deep=4, layered=False):
    """Return a program drawn at random; its functions call only those behind them if it is to be layered."""
    names = ["a", "b", "c"][:chance.choice([1, 1, 2, 2, 3])]
    worths = ["x", "y", "z"][:chance.choice([1, 2, 2, 3]) if len(names) < 3 else 2]
    functions = ["f", "g", "d"][:chance.choice([1, 2, 2, 3])]
    bodies = []
    for number, function in enumerate(functions):
        called = functions[number + 1:] if layered else functions
        body = drawn_body(chance, names, worths, called, [chance.randint(3, most)], deep)
        if number == 0 and chance.random() < 0.8:
            if chance.random() < 0.5:
                other = drawn_body(chance, names, worths, called, [chance.randint(3, most)], deep)
                last = [("guard", [("call", called[-1])])] if called else []
                body = [(chance.choice(["loop", "guard"]), body)] + last + other
            # So that most names aren't bare in what is called.
            for name in names:
                body = [("hold", name, chance.choice(worths), body)]
        bodies.append((function, body))
    return Program(names, worths, bodies)


def few_program(chance, layered):
    """Return a program drawn at random of at most two names and two worths."""
    while True:
        program = drawn_program(chance, 7, 4, layered)
        if len(program.names()) <= 2 and len(program.worths()) <= 2:
            return program


def handing_program(chance):
    """Return a program drawn at random whose functions hand worths from name to name, and never say one."""
    names, worths, functions = ["a", "b"], ["x", "y"], ["f", "g", "h"]

    def body(number, deep):
        return [step(number, deep) for _ in range(chance.randint(1, 3))]

    def step(number, deep):
        word = chance.choice(["set", "set", "call", "hold", "guard", "either"] if deep > 1 else ["set", "set", "call"])
        name, other = chance.sample(names, 2)
        if word == "call" and (number < 2 or chance.random() < 0.2):
            return ("call", functions[min(number + 1, 2)])
        if word == "hold":
            return ("hold", name, chance.choice([name, other, "x"]), body(number, deep - 1))
        if word == "guard":
            return ("guard", body(number, deep - 1) + [("raise",)] * chance.randint(0, 1))
        if word == "either":
            return ("either", body(number, deep - 1), [])
        return ("set", chance.choice([name, name, None]), chance.choice([other, other, "y"]))

    return Program(names, worths, [(function, body(number, 3)) for number, function in enumerate(functions)])


def choosing_program(chance):
    """Return a program drawn at random with many ways of unlike lengths to the last step of its first function."""
    functions = ["f", "g", "h", "i"]

    def body(number, deep):
        return [step(number, deep) for _ in range(chance.randint(0 if number or deep < 3 else 2, 3))]

    def step(number, deep):
        words = ["set", "set", "call", "call", "call"] + (["either", "either", "hold", "guard"] if deep > 1 else [])
        word = chance.choice(words)
        if word == "call" and number < 3:
            return ("call", chance.choice(functions[number + 1:]))
        if word == "either":
            return ("either", body(number, deep - 1), body(number, deep - 1))
        if word == "hold":
            return ("hold", None, "x", body(number, deep - 1))
        if word == "guard":
            return ("guard", body(number, deep - 1) + [("either", [("raise",)], []), ("set", None, "x")])
        return ("set", None, "x")

    bodies = [(function, body(number, 3)) for number, function in enumerate(functions)]
    bodies[0] = ("f", [("hold", "a", "x", [("guard", bodies[0][1]), ("say", "a")])])
    return Program(["a"], ["x", "y"], bodies)


def reshaped(chance, program, many):
    """Return a program that is alike but for the names and sources of at most as many holds and sets."""
    places = [place for place, _ in held_and_set(program)]
    chosen = chance.sample(places, min(many, len(places)))
    names, worths = program.names(), program.worths()
    functions = []
    for function, body in program.functions():
        functions.append((function, reshaped_body(chance, names, worths, body, (function, ()), chosen)))
    return Program(names, worths, functions)


def held_and_set(program):
    """Return the tuples of place and step of all holds and sets of a program."""
    return [(place, step_at(program, place)) for word in ["hold", "set"] for place in places(program, word)]


def reshaped_body(chance, names, worths, body, place, chosen):
    function, path = place
    steps = []
    for number, step in enumerate(body):
        here = path + (number,)
        if (function, here) in chosen:
            name, source = chance.choice([step[1], None, chance.choice(names)]), step[2]
            if chance.random() < 0.5:
                source = chance.choice(worths + names)
            step = (step[0], name, source) + step[3:]
        parts = list(step)
        for at, part in enumerate(step):
            if isinstance(part, list):
                branch = (at - len(step) + 2,) if step[0] in ("either", "when") else ()
                parts[at] = reshaped_body(chance, names, worths, part, (function, here + branch), chosen)
        steps.append(tuple(parts))
    return steps


def sure_step(chance, names, worths, later, deep):
    """Return a step drawn at random that leaves nothing to choice and calls only what is later."""
    words = ["call", "call", "call", "set"] if later else ["set", "say"]
    word = chance.choice(words + ["when", "when", "guard", "hold"] if deep > 1 else words)
    name = chance.choice(names)

    def inner():
        return [sure_step(chance, names, worths, later, deep - 1) for _ in range(chance.randint(1, 3))]

    if word == "set":
        return ("set", name, chance.choice(worths + worths + names))
    if word == "say":
        return ("say", name)
    if word == "call":
        return ("call", chance.choice(later))
    if word == "when":
        raising = [("raise",)] if chance.random() < 0.1 else []
        return ("when", name, chance.choice(worths), inner() + raising, inner())
    if word == "guard":
        return ("guard", inner())
    return ("hold", name, chance.choice(worths + names), inner())


def sure_program(chance):
    """Return a program drawn at random with a single run, which can be long."""
    names, worths = ["a", "b", "c"], ["x", "y"]
    functions = ["f", "g", "h", "i"]
    bodies = []
    for number, function in enumerate(functions):
        later = functions[number + 1:]
        body = [sure_step(chance, names, worths, later, 3) for _ in range(chance.randint(3, 6))]
        if number == 0:
            for name in names:
                body = [("hold", name, chance.choice(worths), [("guard", body)] + body)]
        bodies.append((function, body))
    return Program(names, worths, bodies)


def deep_list(deep):
    value = []
    for _ in range(deep):
        value = [value]
    return value


def deep_tuple(deep):
    value = ()
    for _ in range(deep):
        value = (value,)
    return value


def some_values():
    """Return values of every kind, none of which is a program."""
    return [
        None, True, False, 0, 1, -1, 2, 10 ** 40, "", "a", "f", "x", "A", "main", "hold", "end", "abcdefghi", "a b",
        [], [[]], [""], ["a"], ["x"], [True], [None], [1], ["a", "a"], [["x"]], [("f", [])], [("f", (0,))],
        [("say", ("f", (0,)), "x")], [("f", [""], [])], [{}], [()],
        (), ("a",), ("x",), ("",), ((),), ([],), (0,), (True,), ("f", (0,)), ("f", (True,)), ("f", [0]), ("f", 0),
        ("f", (-1,)), ("f", ()), ("f", ("0",)), ("f", (None,)), ("f", ((0,),)), (["f"], (0,)), ("f", (0,), 0),
        {}, {"a": 1}, {"f": (0,)}, {1: [2]}, deep_list(29), (deep_list(28),), deep_tuple(10),
        errors.HeldError(), errors.InvalidList([1]), errors.NothingToUndo(),
        [errors.InvalidName("a")], (errors.UnknownName("f"), (0,)),
    ]


def values_with_programs():
    """Return values of every kind, programs among what they are made of, but none of them a program itself."""
    program = Program(["a"], ["x"], [("f", [])])
    return some_values() + [[program], (program,), {"a": program}, ("f", (program,)), (program, (0,)), [("f", program)]]
