"""[5] what conditions match; [2] as far as it concerns matching.py."""

import itertools
import re
import unittest

from hiddenrank.conditions import parse_condition
from hiddenrank.errors import InvalidRequest, UnknownField, UnknownValue
from hiddenrank.matching import check_condition, first_difference, first_exception, matches, matching
from hiddenrank.schemas import Schema
from tests.support import ErrorChecks, all_requests, role_and_path, wide

ANY = ("any",)
PAIRS = [("a", ["x", "y", "z"]), ("b", ["x", "0"]), ("c", ["any", "q"])]
TEXTS = [
    "any", "!any", "a=x", "!a=x", "b=0", "c=any", "a=x & b=0", "a=x | b=0", "a=x & a=y", "a=x | a=y | a=z",
    "!(a=x & b=0)", "!a=x | !b=0", "!a=x & !b=0", "a=x & b=0 | c=any", "a=x & (b=0 | c=any)", "!(a=z | b=x) & c=q",
    "(a=x | a=y) & (b=x | c=q) & any", "!!c=q", "a=y | b=x & c=any | a=z & !c=any", "!(a=x | a=y | a=z)",
]


def expected_numbers(text):
    """The numbers that a condition over PAIRS matches, found by Python's own operators."""
    code = re.sub(r"(\w+)=(\w+)", r"(\1 == '\2')", text)
    code = re.sub(r"(?<!')\bany\b", "True", code)
    code = code.replace("!", " not ").replace("&", " and ").replace("|", " or ").strip()
    requests = [dict(zip("abc", request)) for request in all_requests(PAIRS)]
    return [number for number, request in enumerate(requests) if eval(code, {}, request)]


class Matching(unittest.TestCase, ErrorChecks):
    def setUp(self):
        self.schema = Schema(PAIRS)

    def test_all_requests(self):
        for text in TEXTS:
            condition = parse_condition(text)
            expected = expected_numbers(text)
            self.assertEqual(matching(self.schema, condition), expected, text)
            for number, request in enumerate(all_requests(PAIRS)):
                self.assertIs(matches(self.schema, condition, request), number in expected, (text, request))

    def test_each_kind_by_hand(self):
        cases = [
            (ANY, [0, 1, 2, 3, 4, 5]), (("test", "role", "user"), [3, 4, 5]), (("test", "path", "b"), [1, 4]),
            (("not", ANY), []), (("not", ("test", "path", "b")), [0, 2, 3, 5]),
            (("and", ("test", "path", "a"), ("test", "path", "b")), []),
            (("and", ANY, ("test", "path", "a"), ("test", "role", "user")), [3]),
            (("or", ("test", "path", "a"), ("test", "role", "user")), [0, 3, 4, 5]),
            (("or", ("not", ANY), ("test", "path", "a"), ("test", "path", "b")), [0, 1, 3, 4]),
        ]
        for condition, expected in cases:
            self.assertEqual(matching(role_and_path(), condition), expected)
            self.assertEqual(matching(schema=role_and_path(), condition=condition), expected)

    def test_differences_and_exceptions(self):
        for left, right in itertools.product(TEXTS, repeat=2):
            one, other = set(expected_numbers(left)), set(expected_numbers(right))
            arguments = (self.schema, parse_condition(left), parse_condition(right))
            self.assertEqual(first_difference(*arguments), min(one ^ other, default=None), (left, right))
            self.assertEqual(first_exception(*arguments), min(one - other, default=None), (left, right))

    def test_the_names_of_the_parameters(self):
        one, other = ("test", "a", "y"), ("test", "a", "x")
        self.assertEqual(first_difference(schema=self.schema, one=one, other=other), 0)
        self.assertEqual(first_exception(schema=self.schema, one=one, other=other), 4)
        self.assertIs(matches(schema=self.schema, condition=ANY, request=("x", "0", "q")), True)
        self.assertIsNone(check_condition(schema=self.schema, condition=ANY))

    def test_large_schemas(self):
        large = Schema([(name, [str(k) for k in range(many)]) for name, many in zip("abcd", (5, 5, 4, 4))])
        last = ("and", ("test", "a", "4"), ("test", "b", "4"), ("test", "c", "3"), ("test", "d", "3"))
        self.assertEqual(matching(large, ANY), list(range(400)))
        self.assertEqual(matching(large, last), [399])
        self.assertEqual(first_difference(large, ANY, ("not", last)), 399)
        self.assertIsNone(first_exception(large, last, ANY))
        self.assertEqual(matching(wide(), ("test", "b", "any")), [0, 1, 2, 3, 4, 5])

    def test_somewhat_beyond_the_limits(self):
        deep = ("test", "a", "x")
        for step in range(10):
            deep = ("not", deep)
        self.assertEqual(matching(self.schema, deep), [0, 1, 2, 3])
        self.assertEqual(matching(self.schema, ("or",) + (deep,) * 40), [0, 1, 2, 3])

    def test_returned_lists_are_new(self):
        matching(self.schema, ANY).clear()
        self.assertEqual(matching(self.schema, ANY), list(range(12)))
        self.assertEqual(self.schema, Schema(PAIRS))


class WrongConditions(unittest.TestCase, ErrorChecks):
    def setUp(self):
        self.schema = role_and_path()

    def assert_refused(self, kind, fields, condition):
        request = ("admin", "a")
        good = ("test", "role", "admin")
        for wrong_request in (request, (), ("x", "x"), ("admin", "x")):
            self.assert_error(kind, fields, matches, self.schema, condition, wrong_request)
        for call in (check_condition, matching):
            self.assert_error(kind, fields, call, self.schema, condition)
        for call in (first_difference, first_exception):
            self.assert_error(kind, fields, call, self.schema, condition, good)
            self.assert_error(kind, fields, call, self.schema, good, condition)
            self.assert_error(kind, fields, call, self.schema, condition, condition)

    def test_good_conditions_return_none(self):
        for condition in (ANY, ("test", "path", "c"), ("not", ("or", ("test", "role", "user"), ANY))):
            self.assertIsNone(check_condition(self.schema, condition))

    def test_unknown_fields_and_values_at_every_place(self):
        good = ("test", "path", "b")
        for wrong, kind, fields in ((("test", "x", "a"), UnknownField, {"name": "x"}),
                                    (("test", "role", "a"), UnknownValue, {"value": "a"}),
                                    (("test", "x", "zz"), UnknownField, {"name": "x"})):
            places = [
                wrong, ("not", wrong), ("and", wrong, good), ("and", good, wrong), ("or", wrong, good),
                ("or", ANY, good, wrong), ("or", ANY, wrong, good), ("and", ("not", ("or", good, wrong)), good),
                ("or", ("and", good, good), ("not", ("not", wrong))), ("and", ("not", ANY), wrong),
            ]
            for condition in places:
                self.assert_refused(kind, fields, condition)

    def test_the_first_wrong_test_counts(self):
        field, value = ("test", "x", "a"), ("test", "path", "z")
        later = ("test", "y", "b")
        self.assert_refused(UnknownField, {"name": "x"}, ("and", field, value))
        self.assert_refused(UnknownValue, {"value": "z"}, ("and", value, field))
        self.assert_refused(UnknownField, {"name": "y"}, ("or", ("not", later), field, value))
        self.assert_refused(UnknownValue, {"value": "z"}, ("or", ("and", ANY, value), later))

    def test_one_comes_before_other(self):
        one, other = ("test", "path", "z"), ("test", "x", "a")
        for call in (first_difference, first_exception):
            self.assert_error(UnknownValue, {"value": "z"}, call, self.schema, one, other)
            self.assert_error(UnknownField, {"name": "x"}, call, self.schema, other, one)

    def test_wrong_requests(self):
        cases = [((), -1), (("admin",), -1), (("admin", "a", "a"), -1), (("x", "a"), 0), (("admin", "x"), 1), (("a", "x"), 0)]
        for condition in (ANY, ("not", ANY), ("test", "role", "admin")):
            for request, position in cases:
                self.assert_error(InvalidRequest, {"position": position}, matches, self.schema, condition, request)


if __name__ == "__main__":
    unittest.main()
