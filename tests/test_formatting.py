"""[7] the canonical text of a condition."""

import unittest

from hiddenrank.conditions import depth_of, format_condition, is_condition, parse_condition

ANY = ("any",)
A = ("test", "a", "x")
B = ("test", "b", "any")
KINDS = ("not", "and", "or")


def combined(kind, parts):
    """The condition of this kind with these parts; a not takes the first one only."""
    return (kind, parts[0]) if kind == "not" else (kind, *parts)


def nested(depth):
    """Conditions with every combination of the kinds in each other, up to a depth."""
    found = [ANY, A]
    latest = [A]
    for level in range(depth - 1):
        latest = [combined(kind, parts) for kind in KINDS for inner in latest
                  for parts in ((inner, B), (B, inner), (inner, inner, ANY))]
        found.extend(latest)
    return [condition for condition in found if is_condition(condition)]


class CanonicalTexts(unittest.TestCase):
    def test_every_kind_in_every_kind(self):
        cases = [
            (ANY, "any"), (A, "a=x"), (B, "b=any"), (("not", ANY), "!any"), (("not", A), "!a=x"),
            (("and", A, B), "a=x & b=any"), (("or", A, B), "a=x | b=any"), (("not", ("not", A)), "!!a=x"),
            (("not", ("and", A, B)), "!(a=x & b=any)"), (("not", ("or", A, B)), "!(a=x | b=any)"),
            (("and", ("not", A), B), "!a=x & b=any"), (("and", A, ("not", B)), "a=x & !b=any"),
            (("and", ("and", A, B), A), "(a=x & b=any) & a=x"), (("and", A, ("and", A, B)), "a=x & (a=x & b=any)"),
            (("and", ("or", A, B), A), "(a=x | b=any) & a=x"), (("and", A, ("or", A, B)), "a=x & (a=x | b=any)"),
            (("or", ("not", A), B), "!a=x | b=any"), (("or", A, ("not", B)), "a=x | !b=any"),
            (("or", ("and", A, B), A), "a=x & b=any | a=x"), (("or", A, ("and", A, B)), "a=x | a=x & b=any"),
            (("or", ("or", A, B), A), "(a=x | b=any) | a=x"), (("or", A, ("or", A, B)), "a=x | (a=x | b=any)"),
            (("and", A, B, ANY), "a=x & b=any & any"), (("or", A, B, ANY), "a=x | b=any | any"),
            (("or", ("and", ("or", A, B), ("not", ("or", A, A))), ANY), "(a=x | b=any) & !(a=x | a=x) | any"),
            (("not", ("not", ("and", ("not", A), ("or", B, ("or", A, B))))), "!!(!a=x & (b=any | (a=x | b=any)))"),
        ]
        for condition, text in cases:
            self.assertEqual(format_condition(condition), text)
            self.assertEqual(format_condition(condition=condition), text)
            self.assertEqual(parse_condition(text), condition)

    def test_parsing_returns_the_condition(self):
        conditions = nested(5)
        self.assertGreater(len(conditions), 2000)
        for condition in conditions:
            text = format_condition(condition)
            self.assertEqual(parse_condition(text), condition, text)
            self.assertNotIn("  ", text)

    def test_parsing_at_the_bounds(self):
        deep = A
        for level in range(7):
            deep = ("or", B, deep) if level % 2 else ("or", deep, B)
        wide = ("and",) + (("or", A, B),) * 9 + (A, B)
        for condition in (deep, wide, ("not", ("not", ("not", ("not", ("not", ("not", ("not", A)))))))):
            self.assertIs(is_condition(condition), True)
            self.assertEqual(parse_condition(format_condition(condition)), condition)
        self.assertEqual(depth_of(deep), 8)

    def test_needless_parentheses_and_spaces_go_away(self):
        cases = [
            ("( a=x )", "a=x"), ("((a=x))&((b=any))", "a=x & b=any"), ("(a=x&any)|!( any )", "a=x & any | !any"),
            ("  !  ( a = x|b= any )  ", "!(a=x | b=any)"), ("(!a=x)&((any|any))", "!a=x & (any | any)"),
        ]
        for text, canonical in cases:
            self.assertEqual(format_condition(parse_condition(text)), canonical)


if __name__ == "__main__":
    unittest.main()
