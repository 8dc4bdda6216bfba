"""Bodies: what they are made of, their copies, and the paths of their steps."""

# Behind each word of a step, the kinds of its further items.
SHAPES = {
    "hold": ("name or none", "source", "body"),
    "set": ("name or none", "source"),
    "say": ("name",),
    "call": ("function",),
    "either": ("body", "body"),
    "loop": ("body",),
    "when": ("name", "worth", "body", "body"),
    "raise": (),
    "guard": ("body",),
}


def is_name(value):
    """Return whether a value is a name."""
    if not isinstance(value, str) or not 1 <= len(value) <= 8:
        return False
    return all(["a" <= sign <= "z" for sign in value])


def is_word(value):
    """Return whether a value is one of the nine words of steps."""
    return isinstance(value, str) and value in SHAPES


def is_body(value, names, worths, functions):
    """Return whether a value is a body over names, worths and names of functions."""
    if not isinstance(value, list):
        return False
    for step in value:
        if not is_step(step, names, worths, functions):
            return False
    return True


def is_step(value, names, worths, functions):
    """Return whether a value is a step over names, worths and names of functions."""
    if not isinstance(value, tuple) or not value or not is_word(value[0]):
        return False
    kinds = SHAPES[value[0]]
    if len(value) != len(kinds) + 1:
        return False
    for kind, part in zip(kinds, value[1:]):
        if not is_part(kind, part, names, worths, functions):
            return False
    return True


def is_part(kind, value, names, worths, functions):
    """Return whether a value can be an item of a kind within a step."""
    if kind == "body":
        return is_body(value, names, worths, functions)
    if kind == "name or none" and value is None:
        return True
    if kind == "source":
        return value in worths or value in names
    if kind == "worth":
        return value in worths
    if kind == "function":
        return value in functions
    return value in names


def copied_body(body):
    """Return a copy of a body that has no list in common with it, and none twice."""
    return [copied_step(step) for step in body]


def copied_step(step):
    """Return a copy of a step, with copies of the bodies in it."""
    return tuple([copied_body(part) if isinstance(part, list) else part for part in step])


def bodies_within(step):
    """Return the bodies of a step, each behind what its steps have in their paths ahead of their numbers."""
    if step[0] in ("either", "when"):
        return [((0,), step[-2]), ((1,), step[-1])]
    if step[0] in ("hold", "loop", "guard"):
        return [((), step[-1])]
    return []


def steps_of(body, path=()):
    """Return the tuples of path and step for all steps of a body, in the order of the paths."""
    found = []
    for number, step in enumerate(body):
        here = path + (number,)
        found.append((here, step))
        for branch, inner in bodies_within(step):
            found.extend(steps_of(inner, here + branch))
    return found


def shape_of(body):
    """Return what a body has but for the names and the sources of its holds and sets."""
    shapes = []
    for step in body:
        parts = [shape_of(part) if isinstance(part, list) else part for part in step]
        if step[0] in ("hold", "set"):
            del parts[1:3]
        shapes.append(tuple(parts))
    return shapes
