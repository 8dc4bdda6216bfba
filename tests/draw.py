"""Small programs drawn with a fixed seed, and values of every kind."""

from heldnames import errors
from heldnames.programs import Program

WORDS = ["hold", "set", "say", "call", "either", "loop", "when", "raise", "guard"]


LEAF_WORDS = ["set", "set", "say", "call", "call", "raise"]
DEEP_WORDS = ["hold", "hold", "hold", "either", "loop", "when", "when", "guard", "guard"]


def drawn_body(chance, names, worths, functions, left, deep):
    """Return a body drawn at random; `left` is a list of the number of steps that may still come."""
    body = []
    for _ in range(chance.randint(0 if deep < 3 else 1, 3)):
        if left[0] <= 0:
            break
        left[0] -= 1
        body.append(drawn_step(chance, names, worths, functions, left, deep))
    return body


def drawn_step(chance, names, worths, functions, left, deep):
    word = chance.choice(LEAF_WORDS + DEEP_WORDS if deep > 1 else LEAF_WORDS)
    name = chance.choice(names)
    source = chance.choice(worths + worths + names)
    maybe = None if chance.random() < 0.15 else name

    def inner():
        return drawn_body(chance, names, worths, functions, left, deep - 1)

    if word == "hold":
        return ("hold", maybe, source, inner())
    if word == "set":
        return ("set", maybe, source)
    if word == "say":
        return ("say", name)
    if word == "call":
        return ("call", chance.choice(functions))
    if word == "either":
        return ("either", inner(), inner())
    if word == "when":
        return ("when", name, chance.choice(worths), inner(), inner())
    if word == "raise":
        return ("raise",)
    return (word, inner())


def drawn_program(chance, most=7, deep=4):
    """Return a program drawn at random."""
    names = ["a", "b", "c"][:chance.choice([1, 1, 2, 2, 3])]
    worths = ["x", "y", "z"][:chance.choice([1, 2, 2, 3]) if len(names) < 3 else 2]
    functions = ["f", "g", "d"][:chance.choice([1, 2, 2, 3])]
    bodies = []
    for number, function in enumerate(functions):
        body = drawn_body(chance, names, worths, functions, [chance.randint(3, most)], deep)
        if number == 0 and chance.random() < 0.8:
            if chance.random() < 0.5:
                other = drawn_body(chance, names, worths, functions, [chance.randint(3, most)], deep)
                body = [(chance.choice(["loop", "guard"]), body)] + [("guard", [("call", functions[-1])])] + other
            # So that most names aren't bare in what is called.
            for name in names:
                body = [("hold", name, chance.choice(worths), body)]
        bodies.append((function, body))
    return Program(names, worths, bodies)


def sure_step(chance, names, worths, later, deep):
    """Return a step drawn at random that leaves nothing to choice and calls only what is later."""
    words = ["call", "call", "call", "set"] if later else ["set", "say"]
    word = chance.choice(words + ["when", "when", "guard", "hold"] if deep > 1 else words)
    name = chance.choice(names)

    def inner():
        return [sure_step(chance, names, worths, later, deep - 1) for _ in range(chance.randint(1, 3))]

    if word == "set":
        return ("set", name, chance.choice(worths + worths + names))
    if word == "say":
        return ("say", name)
    if word == "call":
        return ("call", chance.choice(later))
    if word == "when":
        raising = [("raise",)] if chance.random() < 0.1 else []
        return ("when", name, chance.choice(worths), inner() + raising, inner())
    if word == "guard":
        return ("guard", inner())
    return ("hold", name, chance.choice(worths + names), inner())


def sure_program(chance):
    """Return a program drawn at random with a single run, which can be long."""
    names, worths = ["a", "b", "c"], ["x", "y"]
    functions = ["f", "g", "h", "i"]
    bodies = []
    for number, function in enumerate(functions):
        later = functions[number + 1:]
        body = [sure_step(chance, names, worths, later, 3) for _ in range(chance.randint(3, 6))]
        if number == 0:
            for name in names:
                body = [("hold", name, chance.choice(worths), [("guard", body)] + body)]
        bodies.append((function, body))
    return Program(names, worths, bodies)


def deep_list(deep):
    value = []
    for _ in range(deep):
        value = [value]
    return value


def deep_tuple(deep):
    value = ()
    for _ in range(deep):
        value = (value,)
    return value


def some_values():
    """Return values of every kind, none of which is a program."""
    return [
        None, True, False, 0, 1, -1, 2, 10 ** 40, "", "a", "f", "x", "A", "main", "hold", "end", "abcdefghi", "a b",
        [], [[]], [""], ["a"], ["x"], [True], [None], [1], ["a", "a"], [["x"]], [("f", [])], [("f", (0,))],
        [("say", ("f", (0,)), "x")], [("f", [""], [])], [{}], [()],
        (), ("a",), ("x",), ("",), ((),), ([],), (0,), (True,), ("f", (0,)), ("f", (True,)), ("f", [0]), ("f", 0),
        ("f", (-1,)), ("f", ()), ("f", ("0",)), ("f", (None,)), ("f", ((0,),)), (["f"], (0,)), ("f", (0,), 0),
        {}, {"a": 1}, {"f": (0,)}, {1: [2]}, deep_list(29), (deep_list(28),), deep_tuple(10),
        errors.HeldError(), errors.InvalidList([1]), errors.NothingToUndo(),
        [errors.InvalidName("a")], (errors.UnknownName("f"), (0,)),
    ]


def values_with_programs():
    """Return values of every kind, programs among what they are made of, but none of them a program itself."""
    program = Program(["a"], ["x"], [("f", [])])
    return some_values() + [[program], (program,), {"a": program}, ("f", (program,)), (program, (0,)), [("f", program)]]
