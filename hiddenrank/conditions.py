"""Conditions: their form, their size and depth, and their texts."""

from hiddenrank.errors import InvalidCondition, LimitReached
from hiddenrank.schemas import VALUE_CHARACTERS, is_field_name, is_name, is_value

MAX_SIZE = 30
MAX_DEPTH = 8
MAX_OPEN = 20


def has_form(thing):
    """Returns whether a thing is a condition if its parts are conditions."""
    if not isinstance(thing, tuple) or len(thing) == 0:
        return False
    kind = thing[0]
    if kind == "any":
        return len(thing) == 1
    if kind == "test":
        return len(thing) == 3 and is_test_of(thing[1], thing[2])
    if kind == "not":
        return len(thing) == 2
    return kind in ("and", "or") and len(thing) >= 3


def is_test_of(field, value):
    """Returns whether two things can be the field and the value of a test."""
    if not isinstance(field, str) or not isinstance(value, str):
        return False
    return is_field_name(field) and is_value(value)


def parts_of(condition):
    """Returns the tuple of the conditions that stand directly in a condition."""
    if condition[0] in ("any", "test"):
        return ()
    return condition[1:]


def is_condition(thing):
    """Returns whether nested tuples of strings are a condition."""
    waiting = [(thing, 1)]
    size = 0
    # The bounds are checked on the way, so that a huge thing is refused after few steps.
    while waiting:
        part, depth = waiting.pop()
        size += 1
        if size > MAX_SIZE or depth > MAX_DEPTH or not has_form(part):
            return False
        waiting.extend([(inner, depth + 1) for inner in parts_of(part)])
    return True


def all_parts(condition):
    """Returns the list of all tuples of a condition, each one before its parts."""
    found = [condition]
    for part in parts_of(condition):
        found.extend(all_parts(part))
    return found


def size_of(condition):
    """Returns the size of a condition."""
    return len(all_parts(condition))


def depth_of(condition):
    """Returns the depth of a condition."""
    return 1 + max([depth_of(part) for part in parts_of(condition)], default=0)


def tests_of(condition):
    """Returns the list of the pairs (field, value) of all tests, in the order of their first occurrence."""
    found = []
    for part in all_parts(condition):
        if part[0] == "test" and part[1:] not in found:
            found.append(part[1:])
    return found


def token_end(text, start):
    """Returns the position behind the token that starts at a position."""
    end = start
    while end < len(text) and text[end] in VALUE_CHARACTERS:
        end += 1
    return max(end, start + 1)


def tokens_of(text):
    """Returns the list of the pairs (token, position) of a text; the empty token stands at its end."""
    tokens = []
    at = 0
    while at < len(text):
        end = token_end(text, at)
        if text[at] != " ":
            tokens.append((text[at:end], at))
        at = end
    tokens.append(("", len(text)))
    return tokens


def joined(kind, parts):
    """Returns the only one of some conditions, or the condition of this kind that has them as its parts."""
    if len(parts) == 1:
        return parts[0]
    return (kind, *parts)


class Parser:
    """Reads the tokens of a text once, from left to right."""

    def __init__(self, text):
        self.tokens = tokens_of(text)
        self.at = 0
        self.still_open = 0

    def peek(self):
        """Returns the present token."""
        return self.tokens[self.at][0]

    def take(self, allowed):
        """Returns the present token and goes on to the next one, if the present one can stand there."""
        token, position = self.tokens[self.at]
        if not allowed:
            raise InvalidCondition(position)
        self.at += 1
        return token

    def read_whole(self):
        """Returns the condition of the whole text."""
        condition = self.read_condition()
        self.take(self.peek() == "")
        return condition

    def read_condition(self):
        """Returns the condition of one or more clauses."""
        clauses = [self.read_clause()]
        while self.peek() == "|":
            self.take(True)
            clauses.append(self.read_clause())
        return joined("or", clauses)

    def read_clause(self):
        """Returns the condition of one or more factors."""
        factors = [self.read_factor()]
        while self.peek() == "&":
            self.take(True)
            factors.append(self.read_factor())
        return joined("and", factors)

    def read_factor(self):
        """Returns the condition of one factor."""
        if self.peek() in ("(", "!"):
            return self.read_opened()
        if self.peek() == "any":
            return (self.take(True),)
        return self.read_test()

    def read_opened(self):
        """Returns the condition of a factor that begins with a parenthesis or an exclamation mark."""
        opener = self.take(self.still_open < MAX_OPEN)
        self.still_open += 1
        if opener == "!":
            condition = ("not", self.read_factor())
        else:
            condition = self.read_condition()
            self.take(self.peek() == ")")
        self.still_open -= 1
        return condition

    def read_test(self):
        """Returns the condition of a field name, an equals sign and a value."""
        field = self.take(is_name(self.peek()))
        self.take(self.peek() == "=")
        value = self.take(is_value(self.peek()))
        return ("test", field, value)


def parse_condition(text):
    """Returns the condition that a text describes."""
    condition = Parser(text).read_whole()
    if depth_of(condition) > MAX_DEPTH:
        raise LimitReached(MAX_DEPTH)
    if size_of(condition) > MAX_SIZE:
        raise LimitReached(MAX_SIZE)
    return condition


def format_part(condition, wrapped):
    """Returns the canonical text of a part, in parentheses if its kind is among the wrapped ones."""
    text = format_condition(condition)
    if condition[0] in wrapped:
        return f"({text})"
    return text


def format_condition(condition):
    """Returns the canonical text of a condition."""
    kind = condition[0]
    if kind == "any":
        return "any"
    if kind == "test":
        return f"{condition[1]}={condition[2]}"
    if kind == "not":
        return "!" + format_part(condition[1], ("and", "or"))
    if kind == "and":
        return " & ".join([format_part(part, ("and", "or")) for part in condition[1:]])
    return " | ".join([format_part(part, ("or",)) for part in condition[1:]])
