"""Programs as texts, and texts read as programs."""

from heldnames.bodies import SHAPES
from heldnames.errors import InvalidItem, InvalidList, InvalidText
from heldnames.programs import Program, check_program

# How many braces may be open at once in a line that is read, the function's own with them.
MOST_OPEN = 8


def text_of(program):
    """Return the text of a program."""
    check_program(program)
    lines = [["names"] + program.names(), ["worths"] + program.worths()]
    for function, body in program.functions():
        lines.append(["function", function] + body_tokens(body))
    return "\n".join([" ".join(tokens) for tokens in lines])


def body_tokens(body):
    """Return the list of the tokens of a body."""
    tokens = ["{"]
    for step in body:
        tokens.extend(step_tokens(step))
    return tokens + ["}"]


def step_tokens(step):
    """Return the list of the tokens of a step."""
    tokens = [step[0]]
    for ahead, part in zip(step, step[1:]):
        if isinstance(part, list):
            if isinstance(ahead, list):
                tokens.append("or")
            tokens.extend(body_tokens(part))
        elif part is None:
            tokens.append("_")
        else:
            tokens.append(part)
    return tokens


def read_program(text):
    """Return the program of a text."""
    if not isinstance(text, str):
        raise InvalidText(text)
    lines = lines_of(text)
    heads = [line[0] for line in lines]
    if heads != ["names", "worths"] + ["function"] * (len(lines) - 2):
        raise InvalidText(text)
    functions = [Reader(text, line[1:]).read_function() for line in lines[2:]]
    # Which words may stand for names, worths and functions is for the program itself to say.
    try:
        return Program(lines[0][1:], lines[1][1:], functions)
    except (InvalidList, InvalidItem):
        raise InvalidText(text) from None


def lines_of(text):
    """Return the list of the lists of tokens of all lines of a text that have any."""
    found = []
    for line in text.split("\n"):
        tokens = tokens_of(line)
        if tokens is None:
            raise InvalidText(text)
        if tokens:
            found.append(tokens)
    return found


def tokens_of(line):
    """Return the list of the tokens of a line, or None if another sign stands in it."""
    tokens = []
    in_word = False
    for sign in line:
        if "a" <= sign <= "z":
            if in_word:
                tokens[-1] = tokens[-1] + sign
            else:
                tokens.append(sign)
        elif sign in ("_", "{", "}"):
            tokens.append(sign)
        elif sign != " ":
            return None
        in_word = "a" <= sign <= "z"
    return tokens


class Reader:
    """Reads the tokens of a function, one after another."""

    def __init__(self, text, tokens):
        # The whole text is what an error tells.
        self.text = text
        self.tokens = tokens
        self.at = 0

    def take(self):
        """Return the next token, and go on behind it."""
        self.demand(self.at < len(self.tokens))
        self.at += 1
        return self.tokens[self.at - 1]

    def demand(self, holds):
        """Raise an error unless what has to hold does."""
        if not holds:
            raise InvalidText(self.text)

    def read_function(self):
        """Return the function that all the tokens make."""
        function = self.take()
        body = self.read_body(1)
        self.demand(self.at == len(self.tokens))
        return (function, body)

    def read_body(self, deep):
        """Return the body that begins here; so many braces are open within it."""
        self.demand(self.take() == "{" and deep <= MOST_OPEN)
        body = []
        word = self.take()
        while word != "}":
            body.append(self.read_step(word, deep))
            word = self.take()
        return body

    def read_step(self, word, deep):
        """Return the step that has begun with a word, in a body within which so many braces are open."""
        self.demand(word in SHAPES)
        parts = [word]
        for kind in SHAPES[word]:
            if kind == "body":
                if isinstance(parts[-1], list):
                    self.demand(self.take() == "or")
                parts.append(self.read_body(deep + 1))
            else:
                parts.append(self.read_part(kind))
        return tuple(parts)

    def read_part(self, kind):
        """Return an item of a kind within a step that is no body."""
        token = self.take()
        if kind == "name or none" and token == "_":
            return None
        return token
