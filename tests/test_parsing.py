"""[6] the text of a condition: tokens, grammar, positions of faults, bounds."""

import itertools
import unittest

from hiddenrank.conditions import parse_condition
from hiddenrank.errors import InvalidCondition, LimitReached
from tests.support import ErrorChecks

ANY = ("any",)
A = ("test", "a", "x")
B = ("test", "b", "y")
C = ("test", "c", "z")
LETTERS = set("abcdefghijklmnopqrstuvwxyz")
DIGITS = set("0123456789")


class TableAutomaton:
    """Says token by token what can stand next; written apart from the program, without recursion."""

    def __init__(self):
        self.expected = "factor"
        self.opened = []

    def accepts(self, token):
        if self.expected == "factor":
            return self.accepts_factor(token)
        if self.expected == "equals":
            return self.goes_on("value", token == "=")
        if self.expected == "value":
            return self.ends_factor(1 <= len(token) <= 8 and set(token) <= LETTERS | DIGITS)
        if token in ("&", "|"):
            return self.goes_on("factor", True)
        if token == ")" and self.opened:
            self.opened.pop()
            return self.ends_factor(True)
        return token == "" and not self.opened

    def accepts_factor(self, token):
        if token in ("(", "!"):
            self.opened.append(token)
            return len(self.opened) <= 20
        if token == "any":
            return self.ends_factor(True)
        return self.goes_on("equals", 1 <= len(token) <= 8 and set(token) <= LETTERS)

    def goes_on(self, expected, accepted):
        self.expected = expected
        return accepted

    def ends_factor(self, accepted):
        while self.opened and self.opened[-1] == "!":
            self.opened.pop()
        return self.goes_on("sign", accepted)


def first_fault(tokens):
    """The index of the first token that cannot stand there, len(tokens) for the end, or None."""
    automaton = TableAutomaton()
    for index, token in enumerate(list(tokens) + [""]):
        if not automaton.accepts(token):
            return index
    return None


class Results(unittest.TestCase):
    def test_factors(self):
        cases = [
            ("any", ANY), ("a=x", A), ("abcdefgh=12345678", ("test", "abcdefgh", "12345678")),
            ("a=any", ("test", "a", "any")), ("anyx=0", ("test", "anyx", "0")), ("!any", ("not", ANY)),
            ("!!a=x", ("not", ("not", A))), ("(any)", ANY), ("(((a=x)))", A), ("!(a=x)", ("not", A)),
            ("(!a=x)", ("not", A)), ("!(!(a=x))", ("not", ("not", A))), ("an=y", ("test", "an", "y")),
        ]
        for text, condition in cases:
            self.assertEqual(parse_condition(text), condition, text)
            self.assertEqual(parse_condition(text=text), condition, text)

    def test_clauses_and_conditions(self):
        cases = [
            ("a=x&b=y", ("and", A, B)), ("a=x|b=y", ("or", A, B)), ("a=x&b=y&c=z", ("and", A, B, C)),
            ("a=x|b=y|c=z", ("or", A, B, C)), ("a=x&b=y|c=z", ("or", ("and", A, B), C)),
            ("a=x|b=y&c=z", ("or", A, ("and", B, C))), ("(a=x|b=y)&c=z", ("and", ("or", A, B), C)),
            ("a=x&(b=y|c=z)", ("and", A, ("or", B, C))), ("(a=x&b=y)&c=z", ("and", ("and", A, B), C)),
            ("a=x&(b=y&c=z)", ("and", A, ("and", B, C))), ("(a=x|b=y)|c=z", ("or", ("or", A, B), C)),
            ("(a=x&b=y)|c=z", ("or", ("and", A, B), C)), ("(a=x)&(b=y)", ("and", A, B)),
            ("((a=x)|((b=y)))", ("or", A, B)), ("!a=x&b=y", ("and", ("not", A), B)),
            ("!a=x|b=y", ("or", ("not", A), B)), ("!(a=x&b=y)", ("not", ("and", A, B))),
            ("a=x&!b=y|!c=z&any", ("or", ("and", A, ("not", B)), ("and", ("not", C), ANY))),
            ("any|any", ("or", ANY, ANY)), ("a=x&a=x", ("and", A, A)),
        ]
        for text, condition in cases:
            self.assertEqual(parse_condition(text), condition, text)

    def test_spaces_anywhere_except_inside_a_run(self):
        tokens = ["!", "(", "a", "=", "x", "&", "any", ")", "|", "b", "=", "y"]
        expected = ("or", ("not", ("and", A, ANY)), B)
        for between in ("", " ", "   "):
            for edge in ("", " ", "    "):
                self.assertEqual(parse_condition(edge + between.join(tokens) + edge), expected)
        for place in range(len(tokens) + 1):
            text = "".join(tokens[:place]) + "  " + "".join(tokens[place:])
            self.assertEqual(parse_condition(text), expected, text)


class Positions(unittest.TestCase, ErrorChecks):
    def assert_fault(self, text, position):
        with self.subTest(text):
            self.assert_error(InvalidCondition, {"position": position}, parse_condition, text)

    def test_the_text_ends_too_early(self):
        for text in ("", " ", "    ", "a", "a ", "a=", "a= ", "a=x&", "a=x & ", "any|", "!", "! ", "(", "(a=x", "((a=x)",
                     "(any ", "!(", "!(any", "a=x|!", "(a", "(a="):
            self.assert_fault(text, len(text))

    def test_the_first_token_that_cannot_stand_there(self):
        cases = [
            ("=", 0), ("&", 0), ("|", 0), (")", 0), ("1", 0), ("A", 0), ("?", 0), ("\n", 0), (" \nany", 1), ("-", 0),
            ("()", 1), ("( )", 2), ("any any", 4), ("any=x", 3), ("any = x", 4), ("a x", 2), ("a&b", 1), ("a==x", 2),
            ("a=&", 2), ("a=(", 2), ("a=!x", 2), ("a=)", 2), ("a=x)", 3), ("a=x b=y", 4), ("a=x=y", 3), ("a=x!b=y", 3),
            ("a=x(b=y)", 3), ("a=x&&b=y", 4), ("a=x&|b=y", 4), ("a=x||b=y", 4), ("a=x|)", 4), ("(a=x))", 5),
            ("(a=x b=y)", 5), ("(a=x)(b=y)", 5), ("(a=x)b=y", 5), ("(a=x)any", 5), ("!&", 1), ("!=x", 1), ("!)", 1),
            ("(any=x)", 4), ("a=X", 2), ("a=xY", 3), ("aB=x", 1), ("Ab=x", 0), ("a_b=x", 1), ("a=x\n", 3), ("a\n=x", 1),
            ("a=\nx", 2), ("a=x.", 3), ("any!", 3), ("any(", 3), ("anyany", 6), ("a = x y", 6), ("x~=y", 1), ("a='x'", 2),
            ("!any=x", 4), ("any&any=any", 7), ("a=x & any b", 10),
        ]
        for text, position in cases:
            self.assert_fault(text, position)

    def test_runs_that_are_no_names_or_values(self):
        for run in ("abcdefghi", "a1", "1a", "1", "any1", "abcdefgh1", "z" * 5000):
            for before in ("", " ", "!", "(", "a=x&", "a=x | ", "!( "):
                self.assert_fault(before + run, len(before))
                self.assert_fault(before + run + "=x", len(before))
        for run in ("abcdefghi", "123456789", "a" * 5000):
            self.assert_fault("a=" + run, 2)
            self.assert_fault("(a = " + run + ")", 5)
        self.assert_fault("abcdefgh ijkl=x", 9)
        self.assert_fault("a=abcdefgh ijkl", 11)

    def test_every_short_text_of_tokens(self):
        alphabet = ["any", "a", "x1", "abcdefghi", "=", "&", "|", "!", "(", ")", "?"]
        for length in range(5):
            for tokens in itertools.product(alphabet, repeat=length):
                self.check_tokens(tokens)

    def test_longer_texts_of_fewer_tokens(self):
        for tokens in itertools.product(["any", "a=x", "&", "|", "!", "(", ")"], repeat=6):
            self.check_tokens([single for token in tokens for single in (list(token) if "=" in token else [token])])

    def check_tokens(self, tokens):
        text = " ".join(tokens)
        fault = first_fault(tokens)
        if fault is None:
            parse_condition(text)
            return
        position = len(text) if fault == len(tokens) else sum(len(token) + 1 for token in tokens[:fault])
        try:
            parse_condition(text)
        except InvalidCondition as error:
            self.assertEqual(error.position, position, text)
        else:
            self.fail(text)


class OpenTokens(unittest.TestCase, ErrorChecks):
    def assert_fault(self, text, position):
        self.assert_error(InvalidCondition, {"position": position}, parse_condition, text)

    def test_twenty_parentheses_and_one_more(self):
        for many in range(1, 21):
            self.assertEqual(parse_condition("(" * many + "a=x" + ")" * many), A)
        self.assert_fault("(" * 21 + "a=x" + ")" * 21, 20)
        self.assert_fault("(" * 5000, 20)
        self.assert_fault("( " * 21 + "a=x", 40)
        self.assert_fault("(" * 20, 20)

    def test_twenty_exclamation_marks_and_one_more(self):
        self.assert_error(LimitReached, {"limit": 8}, parse_condition, "!" * 20 + "any")
        self.assert_fault("!" * 21 + "any", 20)
        self.assert_fault("!" * 5000, 20)
        self.assert_fault("!" * 20, 20)

    def test_both_count_together(self):
        self.assertEqual(parse_condition("!(" * 5 + "(" * 10 + "any" + ")" * 15), parse_condition("!!!!!any"))
        self.assert_fault("!(" * 5 + "(" * 11 + "any" + ")" * 16, 20)
        self.assert_fault("!(" * 5 + "(" * 10 + "!any", 20)
        self.assert_fault("(" * 20 + "any & !any" + ")" * 20, 26)
        self.assert_fault("(" * 20 + "any & (any)" + ")" * 20, 26)

    def test_closed_ones_do_not_count(self):
        group = "(" * 19 + "any" + ")" * 19
        self.assertEqual(parse_condition(f"({group}|{group})"), ("or", ANY, ANY))
        self.assertEqual(parse_condition(f"({group}|!any|{group}|(any))"), ("or", ANY, ("not", ANY), ANY, ANY))
        self.assertEqual(parse_condition("(" * 19 + "!any&!any&(any)" + ")" * 19),
                         ("and", ("not", ANY), ("not", ANY), ANY))
        negated = "!(" + "(" * 18 + "any" + ")" * 19
        self.assertEqual(parse_condition(f"{negated}&{negated}"), ("and", ("not", ANY), ("not", ANY)))
        self.assert_fault(f"({group}&!{group})", 1 + len(group) + 2 + 18)


class Bounds(unittest.TestCase, ErrorChecks):
    def test_depth(self):
        for many in range(21):
            text = "!" * many + "any"
            if many <= 7:
                self.assertEqual(parse_condition(text)[0], "not" if many else "any")
            else:
                self.assert_error(LimitReached, {"limit": 8}, parse_condition, text)
        eight = "any & (any | (any & (any | (any & (any | (any & any))))))"
        self.assertEqual(parse_condition(eight)[0], "and")
        self.assert_error(LimitReached, {"limit": 8}, parse_condition, "!(" + eight + ")")
        self.assertEqual(parse_condition("(" + eight + ")"), parse_condition(eight))

    def test_size(self):
        for sign in "&|":
            self.assertEqual(len(parse_condition(sign.join(["a=x"] * 29))), 30)
            self.assert_error(LimitReached, {"limit": 30}, parse_condition, sign.join(["a=x"] * 30))
            self.assert_error(LimitReached, {"limit": 30}, parse_condition, sign.join(["any"] * 5000))
        self.assertEqual(len(parse_condition("|".join(["!any"] * 14 + ["any"]))), 16)
        self.assert_error(LimitReached, {"limit": 30}, parse_condition, "|".join(["!any"] * 15))

    def test_depth_comes_before_size(self):
        self.assert_error(LimitReached, {"limit": 8}, parse_condition, "!" * 8 + "any" + "&any" * 40)
        self.assert_error(LimitReached, {"limit": 8}, parse_condition, "any&" * 40 + "!" * 8 + "any")
        self.assert_error(LimitReached, {"limit": 30}, parse_condition, "any&" * 40 + "!" * 6 + "any")

    def test_faults_of_the_text_come_before_the_bounds(self):
        text = "!" * 9 + "any" + "&any" * 40
        self.assert_error(InvalidCondition, {"position": len(text)}, parse_condition, text + ")")
        self.assert_error(InvalidCondition, {"position": len(text) + 1}, parse_condition, text + "&")


if __name__ == "__main__":
    unittest.main()
