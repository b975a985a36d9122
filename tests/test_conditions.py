"""[5] conditions: their form, size, depth and tests."""

import unittest

from hiddenrank import conditions
from hiddenrank.conditions import depth_of, is_condition, size_of, tests_of

ANY = ("any",)
TEST = ("test", "a", "b")


def negated(many, inner=ANY):
    """A condition under many nots."""
    for step in range(many):
        inner = ("not", inner)
    return inner


def chain(depth):
    """A condition of some depth in which and, or and not take turns."""
    inner = TEST
    for step in range(depth - 1):
        inner = [("not", inner), ("and", ANY, inner), ("or", inner, TEST)][step % 3]
    return inner


class Forms(unittest.TestCase):
    def test_constants(self):
        self.assertEqual((conditions.MAX_SIZE, conditions.MAX_DEPTH), (30, 8))

    def test_conditions_of_each_kind(self):
        good = [
            ANY, TEST, ("test", "abcdefgh", "12345678"), ("test", "a", "any"), ("test", "test", "test"),
            ("test", "not", "and"), ("not", ANY), ("not", TEST), ("not", ("not", ANY)), ("and", ANY, ANY),
            ("or", TEST, ANY), ("and", ANY, TEST, ANY, TEST), ("or", ANY, ANY, ANY), ("and", ("and", ANY, TEST), ANY),
            ("or", ("and", ANY, TEST), ("not", ("or", TEST, TEST))),
        ]
        for thing in good:
            self.assertIs(is_condition(thing), True, thing)

    def test_tuples_that_are_no_conditions(self):
        bad = [
            (), ("",), ("none",), ("Any",), ("any", "any"), ("any", ANY), (ANY,), (ANY, ANY), ((),), ("test",),
            ("test", "a"), ("test", "a", "b", "c"), ("test", ANY, "b"), ("test", "a", ANY), ("test", "a", ()),
            ("test", "any", "b"), ("test", "", "b"), ("test", "a", ""), ("test", "abcdefghi", "b"),
            ("test", "a", "123456789"), ("test", "a1", "b"), ("test", "A", "b"), ("test", "a", "B"),
            ("test", "a", "b c"), ("test", "a ", "b"), ("TEST", "a", "b"), ("not",), ("not", ANY, ANY), ("not", "any"),
            ("not", ()), ("and",), ("or",), ("and", ANY), ("or", TEST), ("and", "any", "any"), ("or", ANY, "any"),
            ("and", ANY, ()), ("or", (), ANY), ("xor", ANY, ANY), ("a", "=", "b"), ("any",) * 3,
            ("and", ANY, ("and", ANY)), ("or", ANY, ANY, ("test", "any", "b")), ("not", ("not", ("not", "any"))),
            (("and", ANY, ANY),), (("not",), ANY), ("and", ANY, ANY, "x"), ("test", ("a",), ("b",)),
            ("test", ("a",), "b"), ("test", "a", ("b",)), ("test", ("a", "b"), "b"), ("test", "a", ("b", "1")),
        ]
        for thing in bad:
            self.assertIs(is_condition(thing), False, thing)
        self.assertIs(is_condition(thing=ANY), True)

    def test_a_string_is_no_condition(self):
        for text in ("any", "", "a=b"):
            self.assertIs(is_condition(text), False)

    def test_the_bound_of_the_depth(self):
        for depth in range(1, 21):
            self.assertIs(is_condition(negated(depth - 1)), depth <= 8, depth)
            self.assertIs(is_condition(chain(depth)), depth <= 8, depth)
        self.assertIs(is_condition(("and", ANY, negated(6), ANY)), True)
        for place in range(1, 4):
            thing = ["and", ANY, ANY, ANY]
            thing[place] = negated(7)
            self.assertIs(is_condition(tuple(thing)), False, place)

    def test_the_bound_of_the_size(self):
        for many in range(2, 40):
            self.assertIs(is_condition(("or",) + (TEST,) * many), many <= 29, many)
        half = ("and",) + (ANY,) * 13
        self.assertIs(is_condition(("or", half, half, ANY)), True)
        self.assertIs(is_condition(("or", half, half, ANY, ANY)), False)
        self.assertIs(is_condition(("or",) + (ANY,) * 599), False)

    def test_huge_tuples_are_refused_quickly(self):
        thing = ANY
        for step in range(18):
            thing = ("or",) + (thing,) * 599
        self.assertIs(is_condition(thing), False)


class Measures(unittest.TestCase):
    def test_size_and_depth(self):
        cases = [
            (ANY, 1, 1), (TEST, 1, 1), (("not", TEST), 2, 2), (("and", ANY, TEST), 3, 2),
            (("or", ANY, ANY, ANY, ANY), 5, 2), (("not", ("not", ANY)), 3, 3),
            (("and", ("or", ANY, TEST), ANY), 5, 3), (("and", ANY, ("or", ANY, ("not", TEST))), 6, 4),
            (("or", ("not", ("not", ANY)), ("and", ANY, ANY), TEST), 8, 4),
            (negated(7), 8, 8), (("or",) + (ANY,) * 29, 30, 2),
        ]
        for condition, size, depth in cases:
            self.assertEqual((size_of(condition), depth_of(condition)), (size, depth), condition)
            self.assertEqual((size_of(condition=condition), depth_of(condition=condition)), (size, depth))

    def test_no_error_somewhat_beyond_the_limits(self):
        self.assertEqual((size_of(negated(8)), depth_of(negated(8))), (9, 9))
        self.assertEqual((size_of(negated(30)), depth_of(negated(30))), (31, 31))
        self.assertEqual(size_of(("or",) + (TEST,) * 40), 41)
        self.assertEqual(tests_of(negated(12, TEST)), [("a", "b")])


class Tests(unittest.TestCase):
    def test_tests_in_the_order_of_their_first_occurrence(self):
        one, two, three = ("test", "b", "x"), ("test", "a", "x"), ("test", "b", "a")
        cases = [
            (ANY, []), (("not", ("and", ANY, ANY)), []), (one, [one]), (("not", two), [two]),
            (("or", one, two, one), [one, two]), (("or", two, one, two, one), [two, one]),
            (("and", ("or", three, one), two, three), [three, one, two]),
            (("and", two, ("or", three, ("not", one)), two), [two, three, one]),
            (("or", ("not", ("not", one)), ("and", one, three), two, ANY), [one, three, two]),
        ]
        for condition, expected in cases:
            self.assertEqual(tests_of(condition), [test[1:] for test in expected], condition)
            self.assertEqual(tests_of(condition=condition), [test[1:] for test in expected])

    def test_the_result_is_a_new_list_of_pairs(self):
        condition = ("or", TEST, ("test", "c", "any"))
        found = tests_of(condition)
        self.assertEqual((type(found), [type(pair) for pair in found]), (list, [tuple, tuple]))
        found.clear()
        self.assertEqual(tests_of(condition), [("a", "b"), ("c", "any")])


if __name__ == "__main__":
    unittest.main()
