"""Names, values and schemas, and the requests of a schema with their numbers."""

from hiddenrank.errors import DuplicateName, InvalidName, InvalidNumber, InvalidRequest, InvalidValue
from hiddenrank.errors import LimitReached, UnknownField

MAX_NAME = 8
MAX_FIELDS = 5
MAX_VALUES = 6
MAX_REQUESTS = 400

NAME_CHARACTERS = "abcdefghijklmnopqrstuvwxyz"
VALUE_CHARACTERS = "abcdefghijklmnopqrstuvwxyz0123456789"


def consists_of(text, characters):
    """Returns whether a string has 1 to MAX_NAME characters, all of them among the given ones."""
    return 1 <= len(text) <= MAX_NAME and all([character in characters for character in text])


def is_name(text):
    """Returns whether a string is a name."""
    return consists_of(text, NAME_CHARACTERS)


def is_value(text):
    """Returns whether a string is a value."""
    return consists_of(text, VALUE_CHARACTERS)


def is_field_name(text):
    """Returns whether a string can be the name of a field."""
    return is_name(text) and text != "any"


def check_count(many, limit):
    """Raises LimitReached unless there is at least one thing and there are at most as many as the limit."""
    if many < 1 or many > limit:
        raise LimitReached(limit)


def checked_values(values):
    """Returns the values of a field as a tuple."""
    check_count(len(values), MAX_VALUES)
    kept = []
    for value in values:
        if not is_value(value):
            raise InvalidValue(value)
        if value in kept:
            raise DuplicateName(value)
        kept.append(value)
    return tuple(kept)


def checked_fields(fields):
    """Returns a dict from the names of the fields to the tuples of their values."""
    check_count(len(fields), MAX_FIELDS)
    kept = {}
    for name, values in fields:
        if not is_field_name(name):
            raise InvalidName(name)
        if name in kept:
            raise DuplicateName(name)
        kept[name] = checked_values(values)
    return kept


def count_requests(choices):
    """Returns in how many ways one value can be chosen from each tuple of values."""
    many = 1
    for values in choices:
        many *= len(values)
    return many


class Schema:
    """The fields of requests and the values of each field; it is never changed."""

    def __init__(self, fields):
        kept = checked_fields(fields)
        self.labels = tuple(kept)
        self.choices = tuple(kept.values())
        self.total = count_requests(self.choices)
        if self.total > MAX_REQUESTS:
            raise LimitReached(MAX_REQUESTS)

    def __eq__(self, other):
        return isinstance(other, Schema) and self.labels == other.labels and self.choices == other.choices

    def __len__(self):
        return len(self.labels)

    def __repr__(self):
        return f"Schema({len(self.labels)} fields, {self.total} requests)"

    def fields(self):
        """Returns the list of the names of the fields."""
        return list(self.labels)

    def values_of(self, field):
        """Returns the list of the values of a field."""
        if field not in self.labels:
            raise UnknownField(field)
        return list(self.choices[self.labels.index(field)])

    def size(self):
        """Returns the number of requests."""
        return self.total

    def request_of(self, number):
        """Returns the request with a number."""
        if number < 0 or number >= self.total:
            raise InvalidNumber(number)
        backwards = []
        rest = number
        # The last field changes fastest, so its value is the first one that the number gives.
        for values in reversed(self.choices):
            backwards.append(values[rest % len(values)])
            rest //= len(values)
        return tuple(reversed(backwards))

    def number_of(self, request):
        """Returns the number of a request."""
        if len(request) != len(self.choices):
            raise InvalidRequest(-1)
        number = 0
        for position, values in enumerate(self.choices):
            if request[position] not in values:
                raise InvalidRequest(position)
            number = number * len(values) + values.index(request[position])
        return number
