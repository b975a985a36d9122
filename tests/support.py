"""What several test files share."""

import itertools

from hiddenrank.schemas import Schema


def role_and_path():
    """The schema of the document's examples."""
    return Schema([("role", ["admin", "user"]), ("path", ["a", "b", "c"])])


def wide():
    """A schema with five fields, among them one with a single value and one with a value called any."""
    return Schema([("a", ["x"]), ("b", ["any", "0"]), ("c", ["x", "y", "z"]), ("d", ["12345678"]), ("e", ["p", "q"])])


def all_requests(pairs):
    """All requests of the pairs (field, values) in the order of their numbers, made without the package."""
    return list(itertools.product(*[values for name, values in pairs]))


def fields_of(error):
    """The fields of an error without its word."""
    return {name: value for name, value in vars(error).items() if name != "word"}


class ErrorChecks:
    """Checks of raised errors, for test cases."""

    def assert_error(self, kind, fields, call, *args, **more):
        with self.assertRaises(kind) as caught:
            call(*args, **more)
        self.assertIs(type(caught.exception), kind)
        self.assertEqual(fields_of(caught.exception), fields)
        self.assertEqual(caught.exception.word, kind.__name__.lower())
