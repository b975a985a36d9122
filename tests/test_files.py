"""[21] the texts of ledgers."""

import collections
import random
import re
import unittest

from hiddenrank.errors import InvalidFile
from hiddenrank.files import dump, load
from hiddenrank.ledgers import Ledger
from hiddenrank.schemas import Schema
from tests.records import FIELDS, Record, Refused, drawn_command, ledger_of
from tests.support import ErrorChecks, role_and_path
from tests.test_commands import drawn_edit, own_parse

HEAD = "schema role=admin,user path=a,b,c\neffects deny allow ask\n"
SAMPLE = HEAD + (
    "add one allow role=admin\nadd two deny path=a & !(role=user | path=b)\nadd none ask any\nraise one\n"
    "observe user,b ask\ncompare one none\nabove none two\nswap one two\nlower one\nbelow one two\n"
    "observe admin,a deny,allow,none\nrewrite one deny any | any\ndrop two\n")


def text_of(command):
    """The text of a kept command, by [20]."""
    word = command[0]
    if word in ("add", "rewrite"):
        return " ".join([word, command[1], command[3], command[2]])
    if word == "observe":
        return " ".join([word, ",".join(command[1]), ",".join(command[2])])
    return " ".join(command)


def own_schema(line):
    """The fields of the first line, or None."""
    if not re.fullmatch("schema( [a-z]{1,8}=[a-z0-9]{1,8}(,[a-z0-9]{1,8})*){1,5}", line):
        return None
    fields = [(word.split("=")[0], word.split("=")[1].split(",")) for word in line.split(" ")[1:]]
    names = [name for name, values in fields]
    many = 1
    for name, values in fields:
        many *= len(values)
        if name == "any" or len(values) > 6 or len(set(values)) < len(values):
            return None
    return fields if len(set(names)) == len(names) and many <= 400 else None


def own_effects(line):
    """The effects of the second line, or None."""
    if not re.fullmatch("effects( [a-z]{1,8}){1,6}", line):
        return None
    effects = line.split(" ")[1:]
    return effects if "none" not in effects and len(set(effects)) == len(effects) else None


def own_load(text):
    """The record that a text describes, or the index of its first line that is wrong."""
    lines = text.split("\n")
    rest = lines.pop()
    fields = own_schema(lines[0]) if lines else None
    if fields is None:
        return 0
    effects = own_effects(lines[1]) if len(lines) > 1 else None
    if effects is None:
        return 1
    record = Record(fields, effects)
    for at, line in enumerate(lines[2:], start=2):
        command = own_parse(line)
        try:
            if command is None:
                return at
            record.do(command)
        except Refused:
            return at
        if text_of(record.deeds[-1]) != line:
            return at
    return len(lines) if rest else record


class Files(unittest.TestCase, ErrorChecks):
    def assert_line(self, text, line):
        self.assertEqual(own_load(text), line, text)
        self.assert_error(InvalidFile, {"line": line}, load, text)

    def test_the_sample(self):
        ledger = load(text=SAMPLE)
        self.assertEqual(dump(ledger=ledger), SAMPLE)
        self.assertEqual((ledger.present(), ledger.history(), ledger.names()), (13, (0, 0), ["none", "one"]))
        self.assertEqual(ledger.schema(), role_and_path())
        self.assertEqual(ledger.effects(), ["deny", "allow", "ask"])
        self.assertEqual(ledger, ledger_of(own_load(SAMPLE)))

    def test_a_loaded_ledger_can_be_led_on(self):
        ledger = load(SAMPLE)
        self.assertRaises(LookupError, ledger.undo)
        self.assertRaises(LookupError, ledger.redo)
        ledger.apply(("drop", "one"))
        self.assertEqual((ledger.history(), dump(ledger)), ((1, 0), SAMPLE + "drop one\n"))
        ledger.undo()
        self.assertEqual(dump(ledger), SAMPLE)

    def test_empty_ledgers(self):
        for fields, effects, text in [
                (FIELDS, ["deny", "allow", "ask"], HEAD), ([("a", ["1"])], ["x"], "schema a=1\neffects x\n"),
                ([("none", ["any", "0"])], ["any"], "schema none=any,0\neffects any\n")]:
            ledger = Ledger(Schema(fields), effects)
            self.assertEqual(dump(ledger), text)
            self.assertEqual(load(text), ledger)
            self.assertEqual((load(text).history(), len(load(text))), ((0, 0), 0))

    def test_drawn_ledgers_there_and_back(self):
        for seed in range(40):
            source = random.Random(seed)
            record = Record()
            for k in range(source.choice([3, 20, 60])):
                try:
                    record.do(drawn_command(source, record, 0.02))
                except Refused:
                    pass
            ledger = ledger_of(record)
            text = dump(ledger)
            self.assertEqual(text, HEAD + "".join(text_of(deed) + "\n" for deed in record.deeds))
            loaded = load(text)
            self.assertEqual((loaded, dump(loaded), loaded.history()), (ledger, text, (0, 0)))
            self.assertEqual((loaded.problem(), loaded.ranking()), (ledger.problem(), ledger.ranking()))

    def test_history_is_not_written(self):
        ledger = load(SAMPLE)
        text = dump(ledger)
        ledger.apply_all([("raise", "one"), ("drop", "one")])
        ledger.undo()
        self.assertEqual(dump(ledger), text)
        ledger.redo()
        self.assertEqual(dump(ledger), text + "raise one\ndrop one\n")

    def test_missing_lines_and_line_feeds(self):
        for text, line in [
                ("", 0), ("\n", 0), ("\n\n", 0), ("schema", 0), ("schema a=1", 0), ("schema a=1\n", 1),
                ("schema a=1\n\n", 1), ("schema a=1\neffects", 1), ("schema a=1\neffects x", 1),
                ("effects x\nschema a=1\n", 0), ("schema a=1\nschema a=1\neffects x\n", 1),
                ("schema a=1\nadd r x any\n", 1), ("add r x any\n", 0), ("schema a=1\neffects x\n\n", 2),
                ("schema a=1\neffects x\nadd r x any", 2), ("schema a=1\neffects x\nfly", 2),
                ("schema a=1\neffects x\nadd r x any\n\n", 3), ("schema a=1\neffects x\nadd r x any\n ", 3),
                ("schema a=1\neffects x\nadd r x any\nadd r x any\ndrop", 3), ("schema a=1\neffects x\n\nadd r x any\n", 2),
                ("\nschema a=1\neffects x\n", 0), ("schema a=1\neffects x\nadd r x any\ndrop r\ndrop s", 4),
                (SAMPLE[:-1], 14), (SAMPLE + "\n", 15), (SAMPLE + "x", 15)]:
            self.assert_line(text, line)

    def test_first_lines_that_are_refused(self):
        for line in [
                "schema", "schema ", "schema a", "schema a=", "schema =1", "schema a=1 ", "schema  a=1", " schema a=1",
                "schema a=1,", "schema a=,1", "schema a=1,,2", "schema a=1,1", "schema a=1 a=2", "schema any=1", "schema A=1",
                "schema a=A", "schema a1=1", "schema a=1=2", "schema a==1", "Schema a=1", "schemas a=1", "schema,a=1",
                "schema a=1,2,3,4,5,6,7", "schema a=1 b=1 c=1 d=1 e=1 f=1", "schema abcdefghi=1", "schema a=123456789",
                "schema a=1,2,3,4,5,6 b=1,2,3,4,5,6 c=1,2,3,4,5,6 d=1,2", "schema a=1\t", "schema a = 1", "effects a=1"]:
            self.assert_line(line + "\neffects x\n", 0)
        for line in ["schema a=1,2,3,4,5,6", "schema a=1 b=1 c=1 d=1 e=1", "schema abcdefgh=12345678,any,none",
                     "schema a=1,2,3,4,5 b=1,2,3,4,5 c=1,2,3,4 d=1,2,3,4"]:
            text = line + "\neffects x\n"
            self.assertEqual(dump(load(text)), text)

    def test_second_lines_that_are_refused(self):
        for line in ["effects", "effects ", "effects  x", "effects x ", " effects x", "effects none", "effects x x",
                     "effects X", "effects x1", "effects a b c d e f g", "effects x,y", "effect x", "Effects x",
                     "effects abcdefghi", "effects x none", "schema x", "effects x=1"]:
            self.assert_line("schema a=1\n" + line + "\n", 1)
            self.assert_line("schema a=1\n" + line + "\nfly\n", 1)
        for line in ["effects x", "effects a b c d e f", "effects any abcdefgh"]:
            text = "schema a=1\n" + line + "\n"
            self.assertEqual(dump(load(text)), text)

    def test_lines_that_are_not_written_so(self):
        """What a ledger would accept, but in another form than it keeps it."""
        start = HEAD + "add one allow role=admin\n"
        for line in [
                "add two deny (any)", "add two deny  any", "add two deny any ", "add two deny path=a|path=b",
                "add two deny path=a |  path=b", "rewrite one deny !(any)", "rewrite one deny role = admin",
                "observe admin,a allow,deny", "observe admin,a allow,allow", "observe admin,a none,allow",
                "observe user,b none,none"]:
            self.assert_line(start + line + "\n", 3)
            self.assert_line(start + line + "\ndrop one\n", 3)
        for line in ["add two deny any", "add two deny path=a | path=b", "rewrite one deny !any",
                     "observe admin,a deny,allow", "observe admin,a allow,none", "observe user,b none", "drop one"]:
            self.assertEqual(dump(load(start + line + "\n")), start + line + "\n")

    def test_lines_that_are_refused(self):
        start = HEAD + "add one allow role=admin\nadd two deny any\ncompare one two\n"
        for line in [
                "compare two one", "observe admin,a deny", "observe admin,a none", "observe admin,x allow", "observe admin deny",
                "drop x", "add one deny any", "add A deny any", "add three none any", "add three deny x=1", "swap one one",
                "add three deny role=x", "add three deny role=", "above one x", "raise x", "undo", "rules", "observe admin,a x"]:
            self.assert_line(start + line + "\n", 5)
            self.assert_line(start + "raise two\nlower two\n" + line + " \ndrop one", 7)

    def test_limits(self):
        start = "schema a=1\neffects x\n"
        rules = "".join(f"add {letter} x any\n" for letter in "abcdefghij")
        self.assertEqual(len(load(start + rules)), 10)
        self.assert_line(start + rules + "add k x any\n", 12)
        slots = rules + "raise a\n" * 20
        self.assertEqual(len(load(start + slots).layout()), 30)
        self.assert_line(start + slots + "raise a\n", 32)
        self.assert_line(start + slots + "lower a\n", 32)
        reports = "add a x any\n" + "observe 1 x\n" * 40
        self.assertEqual(len(load(start + reports).problem()[2]), 40)
        self.assert_line(start + reports + "observe 1 x\n", 43)
        deeds = "observe 1 none\n" * 120
        self.assertEqual(load(start + deeds).present(), 120)
        self.assert_line(start + deeds + "observe 1 none\n", 122)
        self.assert_line(start + deeds + "observe 1 none", 122)
        self.assert_line(start + deeds + "x", 122)

    def test_drawn_edits(self):
        source = random.Random(11)
        lines = collections.Counter()
        for k in range(2500):
            text = SAMPLE if source.random() < 0.7 else "".join(
                line + "\n" for line in source.sample(SAMPLE.splitlines(), 6))
            text = drawn_edit(source, text) if source.random() < 0.8 else edit_of_lines(source, text)
            expected = own_load(text)
            if isinstance(expected, int):
                self.assert_line(text, expected)
                lines[expected] += 1
            else:
                ledger = load(text)
                self.assertEqual((dump(ledger), ledger.deeds()), (text, expected.deeds))
                lines["loaded"] += 1
        self.assertGreater(lines["loaded"], 50)
        self.assertGreater(len(lines), 12)


def edit_of_lines(source, text):
    """A text with lines left out, repeated or exchanged."""
    lines = text.split("\n")
    one, other = source.randrange(len(lines)), source.randrange(len(lines))
    change = source.choice(["omit", "repeat", "exchange"])
    if change == "omit":
        lines.pop(one)
    elif change == "repeat":
        lines.insert(other, lines[one])
    else:
        lines[one], lines[other] = lines[other], lines[one]
    return "\n".join(lines)


if __name__ == "__main__":
    unittest.main()
