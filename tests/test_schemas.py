"""[3] names, values, schemas; [4] requests and their numbers; [2] as far as it concerns them."""

import unittest

from hiddenrank import schemas
from hiddenrank.errors import DuplicateName, InvalidName, InvalidNumber, InvalidRequest, InvalidValue
from hiddenrank.errors import LimitReached, UnknownField
from hiddenrank.schemas import Schema, is_name, is_value
from tests.support import ErrorChecks, all_requests, role_and_path

PRINTABLE = [chr(code) for code in range(32, 127) if chr(code) != "%"] + ["\n"]
LETTERS = "abcdefghijklmnopqrstuvwxyz"
DIGITS = "0123456789"


def fields_with(counts):
    """Fields a, b, c, .. with as many values as the counts say."""
    return [(LETTERS[place], [f"v{k}" for k in range(many)]) for place, many in enumerate(counts)]


class Names(unittest.TestCase):
    def test_constants(self):
        found = (schemas.MAX_NAME, schemas.MAX_FIELDS, schemas.MAX_VALUES, schemas.MAX_REQUESTS)
        self.assertEqual(found, (8, 5, 6, 400))

    def test_lengths(self):
        for length in range(12):
            self.assertIs(is_name("a" * length), 1 <= length <= 8, length)
            self.assertIs(is_value("a" * length), 1 <= length <= 8, length)
            self.assertIs(is_value("7" * length), 1 <= length <= 8, length)
        self.assertIs(is_name("a" * 20000), False)
        self.assertIs(is_value("1" * 20000), False)

    def test_every_character_at_every_place(self):
        for character in PRINTABLE:
            for text in (character, character + "a", "a" + character, "ab" + character + "cdefg"):
                self.assertIs(is_name(text), character in LETTERS, repr(text))
                self.assertIs(is_value(text), character in LETTERS + DIGITS, repr(text))

    def test_any_is_a_name_and_a_value(self):
        self.assertIs(is_name("any"), True)
        self.assertIs(is_value("any"), True)

    def test_the_name_of_the_parameter(self):
        self.assertIs(is_name(text="abc"), True)
        self.assertIs(is_value(text="a c"), False)


class Schemas(unittest.TestCase, ErrorChecks):
    def test_how_many_fields(self):
        for many in range(9):
            fields = fields_with([1] * many)
            if 1 <= many <= 5:
                self.assertEqual(len(Schema(fields)), many)
            else:
                self.assert_error(LimitReached, {"limit": 5}, Schema, fields)

    def test_how_many_values(self):
        for many in range(9):
            for fields in (fields_with([many]), fields_with([2, many]), fields_with([many, 2])):
                if 1 <= many <= 6:
                    self.assertEqual(len(Schema(fields)), len(fields))
                else:
                    self.assert_error(LimitReached, {"limit": 6}, Schema, fields)

    def test_how_many_requests(self):
        for counts in ([5, 5, 4, 4], [4, 5, 5, 2, 2], [6, 6, 6], [2, 5, 2, 5, 4]):
            self.assertLessEqual(Schema(fields_with(counts)).size(), 400)
        self.assertEqual(Schema(fields_with([5, 5, 4, 4])).size(), 400)
        for counts in ([3, 3, 5, 3, 3], [6, 6, 6, 2], [6, 6, 6, 6, 6], [5, 3, 3, 3, 3]):
            self.assert_error(LimitReached, {"limit": 400}, Schema, fields_with(counts))

    def test_wrong_names(self):
        for name in ("", "any", "abcdefghi", "A", "a1", "1", "a b", " ", "a\n", "a=b", "aB"):
            for place in range(3):
                fields = fields_with([1, 1, 1])
                fields[place] = (name, ["x"])
                self.assert_error(InvalidName, {"name": name}, Schema, fields)
        self.assertEqual(Schema([("abcdefgh", ["x"]), ("anyx", ["x"]), ("none", ["x"])]).fields()[0], "abcdefgh")

    def test_wrong_values(self):
        for value in ("", "abcdefghi", "A", "a b", " ", "a\n", "a,b", "-1"):
            for place in range(3):
                values = ["x", "y", "z"]
                values[place] = value
                self.assert_error(InvalidValue, {"value": value}, Schema, [("a", ["x"]), ("b", values)])
        good = ["any", "0", "12345678", "abcdefgh", "a1", "1a"]
        self.assertEqual(Schema([("a", good)]).values_of("a"), good)

    def test_repeated_names_and_values(self):
        self.assert_error(DuplicateName, {"name": "a"}, Schema, [("a", ["x"]), ("a", ["x"])])
        self.assert_error(DuplicateName, {"name": "b"}, Schema, [("a", ["x"]), ("b", ["x"]), ("c", ["x"]), ("b", ["y"])])
        self.assert_error(DuplicateName, {"name": "x"}, Schema, [("a", ["x", "x"])])
        self.assert_error(DuplicateName, {"name": "y"}, Schema, [("a", ["x", "y", "z", "y"])])
        self.assertEqual(Schema([("a", ["x", "a"]), ("b", ["x", "a"])]).size(), 4)

    def test_two_faults_at_once(self):
        seven = [str(k) for k in range(7)]
        cases = [
            (LimitReached, {"limit": 5}, [("A", [])] * 6),
            (InvalidName, {"name": "any"}, [("any", [])]),
            (InvalidName, {"name": "A"}, [("A", ["x"]), ("A", ["x"])]),
            (InvalidName, {"name": "any"}, [("any", seven), ("any", ["x"])]),
            (DuplicateName, {"name": "a"}, [("a", ["x"]), ("a", [])]),
            (DuplicateName, {"name": "a"}, [("a", ["x"]), ("a", seven)]),
            (DuplicateName, {"name": "a"}, [("a", ["x"]), ("a", ["X"]), ("B", ["x"])]),
            (LimitReached, {"limit": 6}, [("a", ["X"] * 7)]),
            (LimitReached, {"limit": 6}, [("a", []), ("A", ["x"])]),
            (LimitReached, {"limit": 6}, [("a", seven), ("a", ["x"])]),
            (InvalidValue, {"value": "X"}, [("a", ["X", "X"])]),
            (InvalidValue, {"value": "X"}, [("a", ["x", "X", "x"])]),
            (DuplicateName, {"name": "x"}, [("a", ["x", "x", "X"])]),
            (DuplicateName, {"name": "x"}, [("a", ["x", "x"]), ("A", ["x"])]),
            (InvalidValue, {"value": ""}, [("a", [""]), ("a", ["x"])]),
            (InvalidName, {"name": "E"}, fields_with([6, 6, 6, 6]) + [("E", ["x"])]),
            (InvalidValue, {"value": "X"}, fields_with([6, 6, 6, 6]) + [("e", ["X"])]),
            (DuplicateName, {"name": "a"}, fields_with([6, 6, 6, 6]) + [("a", ["x"])]),
            (LimitReached, {"limit": 6}, fields_with([6, 6, 6, 6]) + [("e", [])]),
        ]
        for kind, fields, argument in cases:
            with self.subTest(argument):
                self.assert_error(kind, fields, Schema, argument)

    def test_equality(self):
        schema = Schema([("a", ["x", "y"]), ("b", ["x", "y"])])
        same = Schema((("a", ("x", "y")), ("b", ("x", "y"))))
        self.assertIs(schema == same, True)
        self.assertIs(schema != same, False)
        others = [
            Schema([("b", ["x", "y"]), ("a", ["x", "y"])]),
            Schema([("a", ["y", "x"]), ("b", ["x", "y"])]),
            Schema([("a", ["x", "y"]), ("b", ["y", "x"])]),
            Schema([("a", ["x", "y"])]),
            Schema([("a", ["x", "y"]), ("b", ["x", "y"]), ("c", ["x"])]),
            Schema([("a", ["x", "y"]), ("c", ["x", "y"])]),
            Schema([("a", ["x", "y"]), ("b", ["x"])]),
            Schema([("a", ["x", "y"]), ("b", ["x", "z"])]),
            [("a", ["x", "y"]), ("b", ["x", "y"])], (("a", ("x", "y")), ("b", ("x", "y"))),
            repr(schema), "schema", 2, 4, None, {}, (), True,
        ]
        for other in others:
            with self.subTest(repr(other)):
                self.assertIs(schema == other, False)
                self.assertIs(other == schema, False)
                self.assertIs(schema != other, True)

    def test_repr_and_len(self):
        cases = [([1], "Schema(1 fields, 1 requests)"), ([6], "Schema(1 fields, 6 requests)"),
                 ([5, 5, 4, 4], "Schema(4 fields, 400 requests)"), ([1, 1, 1, 1, 2], "Schema(5 fields, 2 requests)")]
        for counts, text in cases:
            schema = Schema(fields_with(counts))
            self.assertEqual((repr(schema), len(schema)), (text, len(counts)))

    def test_fields_and_values(self):
        schema = Schema([("z", ["q", "p"]), ("any" + "x", ["0"]), ("b", ["any"])])
        self.assertEqual(schema.fields(), ["z", "anyx", "b"])
        self.assertEqual([schema.values_of(name) for name in schema.fields()], [["q", "p"], ["0"], ["any"]])
        self.assertEqual(schema.values_of(field="b"), ["any"])
        for name in ("any", "", "Z", "q", "zz", "z "):
            self.assert_error(UnknownField, {"name": name}, schema.values_of, name)

    def test_the_argument_is_copied_and_not_changed(self):
        values = ["x", "y"]
        fields = [("a", values), ("b", ["p"])]
        schema = Schema(fields=fields)
        self.assertEqual(fields, [("a", ["x", "y"]), ("b", ["p"])])
        values.append("z")
        fields.append(("c", ["q", "r"]))
        self.assertEqual((schema.fields(), schema.values_of("a"), schema.size()), (["a", "b"], ["x", "y"], 2))

    def test_returned_lists_are_new(self):
        schema = role_and_path()
        schema.fields().append("more")
        schema.values_of("path").clear()
        self.assertEqual(schema.fields(), ["role", "path"])
        self.assertEqual(schema.values_of("path"), ["a", "b", "c"])
        self.assertEqual(schema, role_and_path())
        self.assertEqual((type(schema.fields()), type(schema.values_of("role"))), (list, list))
        self.assertEqual(type(Schema((("a", ("x",)),)).values_of("a")), list)


class Requests(unittest.TestCase, ErrorChecks):
    LISTS = [
        [("a", ["x"])],
        [("role", ["user", "admin"]), ("path", ["c", "a", "b"])],
        fields_with([6]), fields_with([5, 5, 4, 4]), fields_with([1, 2, 1, 3, 2]), fields_with([2, 3, 4, 2, 3]),
    ]

    def test_every_number_both_ways(self):
        for fields in self.LISTS:
            schema = Schema(fields)
            expected = all_requests(fields)
            self.assertEqual(schema.size(), len(expected))
            self.assertEqual([schema.request_of(number) for number in range(schema.size())], expected)
            self.assertEqual([schema.number_of(request) for request in expected], list(range(schema.size())))
            self.assertIs(type(schema.request_of(number=0)), tuple)

    def test_wrong_numbers(self):
        for fields in self.LISTS:
            schema = Schema(fields)
            for number in (-1, -schema.size(), schema.size(), schema.size() + 1, 10 ** 19, -(10 ** 19)):
                self.assert_error(InvalidNumber, {"number": number}, schema.request_of, number)

    def test_requests_of_wrong_length(self):
        for fields in self.LISTS:
            schema = Schema(fields)
            request = schema.request_of(schema.size() - 1)
            for wrong in ((), request[:-1], request + request[-1:], request * 2, ("?",) * (len(fields) + 1)):
                self.assert_error(InvalidRequest, {"position": -1}, schema.number_of, wrong)

    def test_requests_with_wrong_values(self):
        for fields in self.LISTS:
            schema = Schema(fields)
            for first in range(len(fields)):
                for wrong in ("?", "", "x y", "X"):
                    one = list(schema.request_of(0))
                    one[first] = wrong
                    self.assert_error(InvalidRequest, {"position": first}, schema.number_of, tuple(one))
                    tail = tuple(one[:first]) + (wrong,) * (len(fields) - first)
                    self.assert_error(InvalidRequest, {"position": first}, schema.number_of, request=tail)

    def test_a_value_of_another_field_is_wrong(self):
        schema = role_and_path()
        self.assert_error(InvalidRequest, {"position": 0}, schema.number_of, ("a", "a"))
        self.assert_error(InvalidRequest, {"position": 1}, schema.number_of, ("user", "user"))
        self.assert_error(InvalidRequest, {"position": 0}, schema.number_of, ("a", "user"))


if __name__ == "__main__":
    unittest.main()
