"""[20] the texts of commands."""

import random
import re
import unittest

from hiddenrank.commands import command_text, parse_command
from hiddenrank.errors import InvalidCommand, InvalidText
from tests.support import ErrorChecks

WORD = r"([^ ]+)"
LIST = r"([^ ,]+(?:,[^ ,]+)*)"
FORMS = [
    ("(add|rewrite) " + WORD + " " + WORD + " (.+)", lambda word, name, effect, text: (word, name, text, effect)),
    ("(drop|raise|lower) " + WORD, lambda *words: words),
    ("(above|below|swap|compare) " + WORD + " " + WORD, lambda *words: words),
    ("(observe) " + LIST + " " + LIST, lambda word, *lists: (word, *[tuple(one.split(",")) for one in lists])),
]

THERE_AND_BACK = [
    (("add", "one", "path=a | any", "allow"), "add one allow path=a | any"),
    (("rewrite", "one", "any", "deny"), "rewrite one deny any"),
    (("drop", "one"), "drop one"), (("raise", "one"), "raise one"), (("lower", "none"), "lower none"),
    (("above", "one", "two"), "above one two"), (("below", "one", "two"), "below one two"),
    (("swap", "one", "two"), "swap one two"), (("compare", "one", "one"), "compare one one"),
    (("observe", ("admin", "a"), ("deny",)), "observe admin,a deny"),
    (("observe", ("x",), ("deny", "allow", "deny", "none")), "observe x deny,allow,deny,none"),
    # Any strings that the form allows, also those that a ledger refuses.
    (("add", "A1", " ", "="), "add A1 =  "), (("add", "a", "  any ", "b"), "add a b   any "),
    (("add", "add", "add add", "add"), "add add add add add"), (("drop", "a,b"), "drop a,b"),
    (("add", "a,b", "c,,d", "e,f"), "add a,b e,f c,,d"), (("drop", "a\nb"), "drop a\nb"),
    (("add", "a", "x\n y", "b"), "add a b x\n y"), (("observe", ("\n", "!"), ("~",)), "observe \n,! ~"),
    (("rewrite", "x", "y", "z"), "rewrite x z y"), (("drop", "drop"), "drop drop"),
]


def own_parse(text):
    """The command of a text by the forms of [20], or None."""
    for form, make in FORMS:
        found = re.fullmatch(form, text, re.DOTALL)
        if found:
            return make(*found.groups())
    return None


def drawn_edit(source, text):
    """A text with a few small changes."""
    for k in range(source.randint(1, 3)):
        at = source.randint(0, len(text))
        change = source.choice(["insert", "delete", "replace", "swap"])
        extra = source.choice([" ", " ", ",", ",", "a", "add ", "observe ", "drop ", "\n", "=", "X"])
        if change == "insert":
            text = text[:at] + extra + text[at:]
        elif change == "delete":
            text = text[:at] + text[at + source.randint(1, 3):]
        elif change == "replace":
            text = text[:at] + extra + text[at + 1:]
        else:
            text = text[:at] + text[at:at + 2][::-1] + text[at + 2:]
    return text


class Texts(unittest.TestCase, ErrorChecks):
    def test_there_and_back(self):
        for command, text in THERE_AND_BACK:
            self.assertEqual(command_text(command), text)
            self.assertEqual(command_text(command=command), text)
            self.assertEqual(parse_command(text), command)
            self.assertEqual(parse_command(text=text), command)
            self.assertIs(type(parse_command(text)), tuple)

    def test_parts_of_observations_are_tuples(self):
        word, request, outcomes = parse_command("observe admin,a deny,allow")
        self.assertEqual((request, outcomes), (("admin", "a"), ("deny", "allow")))
        self.assertEqual((type(request), type(outcomes)), (tuple, tuple))

    def test_texts_of_no_command(self):
        texts = [
            "", " ", "add", "drop", "drop ", "drop  one", " drop one", "drop one ", "drop one two", "drop\none", "Drop one",
            "dropone", "add one allow", "add one allow ", "add one", "add  allow any", "add one  any", " add one allow any",
            "add  one allow any", "rewrite one deny", "rewrite one deny ", "above one", "above one ", "above  two",
            "above one two ", "above one two three", "swap one  two", "compare one", "compare one two x", "raise",
            "lower a b", "observe", "observe admin,a", "observe admin,a ", "observe  deny", "observe admin,a deny ",
            "observe admin, a deny", "observe ,a deny", "observe admin, deny", "observe admin,,a deny",
            "observe a deny,", "observe a ,deny", "observe a deny,,allow", "observe , deny", "observe a ,",
            "observe a b c", "undo", "redo", "rules", "fly one", "none", "schema a=1", "observe\na b", "add,one,allow,any",
        ]
        for text in texts:
            self.assertIsNone(own_parse(text), text)
            self.assert_error(InvalidText, {}, parse_command, text)

    def test_drawn_edits(self):
        source = random.Random(5)
        accepted = refused = 0
        for k in range(6000):
            text = drawn_edit(source, source.choice(THERE_AND_BACK)[1])
            expected = own_parse(text)
            if expected is None:
                self.assert_error(InvalidText, {}, parse_command, text)
                refused += 1
            else:
                self.assertEqual(parse_command(text), expected)
                self.assertEqual(command_text(expected), text)
                accepted += 1
        self.assertGreater(min(accepted, refused), 1000)

    def test_tuples_that_are_no_command(self):
        cases = [(), ("",), ("", "a"), ("fly",), ("undo",), ("drop",), ("drop", "a", "b"), ("add", "a", "any"),
                 ("add", "a", "any", "x", "y"), ("rewrite", "a"), ("raise",), ("lower", "a", "b"), ("above", "a"),
                 ("below", "a", "b", "c"), ("swap",), ("compare", "a"), ("observe", ("a",)),
                 ("observe", ("a",), ("b",), ("c",)), ("Add", "a", "any", "x"), ("add ", "a", "any", "x")]
        for command in cases:
            self.assert_error(InvalidCommand, {}, command_text, command)

    def test_long_texts(self):
        condition = "any | " * 3000 + "any"
        self.assertEqual(parse_command("add one allow " + condition), ("add", "one", condition, "allow"))
        self.assertEqual(command_text(("rewrite", "one", condition, "allow")), "rewrite one allow " + condition)
        request = tuple(["a"] * 600)
        text = "observe " + ",".join(request) + " deny"
        self.assertEqual(parse_command(text), ("observe", request, ("deny",)))
        self.assertEqual(command_text(("observe", request, ("deny",))), text)


if __name__ == "__main__":
    unittest.main()
