"""[22] consoles."""

import collections
import random
import re
import unittest

from hiddenrank.consoles import Console
from hiddenrank.errors import NotFound, RankError
from hiddenrank.files import load
from hiddenrank.ledgers import Ledger
from tests.records import Record, drawn_command, ledger_of
from tests.support import role_and_path
from tests.test_commands import drawn_edit, own_parse
from tests.test_files import SAMPLE, text_of

WORD = "[^ ]+"
REQUEST = "[^ ,]+(,[^ ,]+)*"
TIMED = [f"outcomes {REQUEST}", f"deciders {REQUEST}", f"stronger {WORD} {WORD}", "idle"]
NUMBER = "(0|[1-9][0-9]{0,2})"


def two_rules():
    ledger = Ledger(role_and_path(), ["allow", "deny"])
    ledger.add_rule("one", "role=admin", "allow")
    ledger.add_rule("two", "path=a", "deny")
    return ledger


def own_query(ledger, line, moment=None):
    """The answer to a query by [22] and the methods of the ledger, or None for a line that is no query."""
    words = line.split(" ")
    if line == "rules":
        return " ".join(ledger.names()) or "none"
    if re.fullmatch(f"rule {WORD}", line):
        return " ".join(ledger.rule(words[1])[::-1])
    if line == "moment":
        return str(ledger.present())
    return own_timed(ledger, line, moment)


def own_timed(ledger, line, moment):
    words = line.split(" ")
    if re.fullmatch(TIMED[0], line):
        return " ".join(ledger.outcomes(tuple(words[1].split(",")), moment=moment))
    if re.fullmatch(TIMED[1], line):
        return " ".join(ledger.deciders(tuple(words[1].split(",")), moment=moment)) or "none"
    if re.fullmatch(TIMED[2], line):
        return ledger.stronger(words[1], words[2], moment=moment)
    if line == "idle":
        return " ".join(ledger.idle(moment=moment)) or "none"
    return None


def own_answer(ledger, line):
    """The answer to a line; changes the ledger as the line does."""
    try:
        if own_parse(line) is not None:
            ledger.apply(own_parse(line))
            return "done"
        if line in ("undo", "redo"):
            (ledger.undo if line == "undo" else ledger.redo)()
            return "done"
        later = re.fullmatch(f"at {NUMBER} (.*)", line)
        if later:
            answer = own_timed(ledger, later[2], int(later[1]))
        else:
            answer = own_query(ledger, line)
        return "unknown" if answer is None else answer
    except (RankError, NotFound) as error:
        return "error " + error.word


class Lines(unittest.TestCase):
    def check(self, console, cases):
        for line, answer in cases:
            self.assertEqual(console.run(line), answer, line)

    def test_queries(self):
        console = Console(two_rules())
        self.check(console, [
            ("rules", "one two"), ("rule one", "allow role=admin"), ("rule two", "deny path=a"), ("moment", "2"),
            ("outcomes admin,a", "allow deny"), ("outcomes admin,b", "allow"), ("outcomes user,b", "none"),
            ("deciders admin,a", "one two"), ("deciders user,b", "none"), ("stronger one two", "open"),
            ("idle", "none"), ("compare two one", "done"), ("moment", "3"), ("stronger one two", "no"),
            ("stronger two one", "yes"), ("outcomes admin,a", "deny"), ("deciders admin,a", "two"),
            ("add top deny any", "done"), ("raise top", "done"), ("idle", "one two"), ("rules", "one top two"),
            ("rewrite top allow ( path=c )|path=b", "done"), ("rule top", "allow path=c | path=b"), ("idle", "one"),
        ])

    def test_an_empty_ledger(self):
        console = Console(Ledger(role_and_path(), ["allow"]))
        self.check(console, [
            ("rules", "none"), ("rule one", "error unknownrule"), ("moment", "0"), ("outcomes admin,a", "none"),
            ("deciders admin,a", "none"), ("idle", "none"), ("at 0 idle", "none"), ("stronger a a", "error unknownrule"),
            ("undo", "error nothingleft"), ("redo", "error nothingleft"), ("observe admin,a none", "done"),
            ("observe admin,a allow", "error nothingmatches"), ("moment", "1"),
        ])

    def test_moments(self):
        console = Console(two_rules())
        self.check(console, [
            ("drop one", "done"), ("at 0 outcomes admin,a", "none"), ("at 1 outcomes admin,a", "allow"),
            ("at 2 outcomes admin,a", "allow deny"), ("at 3 outcomes admin,a", "deny"),
            ("at 2 deciders admin,a", "one two"), ("at 0 deciders admin,a", "none"), ("at 2 stronger one two", "open"),
            ("at 3 stronger one two", "error unknownrule"), ("at 2 stronger one one", "error samerule"),
            ("at 1 idle", "none"), ("at 4 idle", "error invalidmoment"), ("at 999 idle", "error invalidmoment"),
            ("at 120 outcomes x", "error invalidmoment"), ("at 3 outcomes x", "error invalidrequest"),
            ("at 10 stronger x x", "error invalidmoment"), ("at 100 deciders a,b", "error invalidmoment"),
        ])

    def test_numbers_that_are_none(self):
        console = Console(two_rules())
        for number in ["", "00", "01", "001", "+1", "-1", "-0", "+0", "1000", "0001", "0000", "1234", "1.", "1a", "a", "x1",
                       "one", "1,2", "2 ", " 2", "1 1", "!", "none"]:
            for query in ["idle", "outcomes admin,a", "deciders admin,a", "stronger one two"]:
                self.assertEqual(console.run(f"at {number} {query}"), "unknown", number)

    def test_moments_of_two_and_three_digits(self):
        ledger = two_rules()
        for at in range(118):
            ledger.observe(("user", "b"), ["none"])
        console = Console(ledger)
        self.check(console, [("moment", "120"), ("at 120 outcomes admin,a", "allow deny"), ("at 99 idle", "none"),
                             ("at 10 deciders admin,b", "one"), ("at 121 idle", "error invalidmoment"),
                             ("at 1 deciders admin,a", "one"), ("drop one", "error limitreached")])

    def test_lines_that_are_nearly_queries(self):
        console = Console(two_rules())
        lines = [
            "", " ", "fly", "rules ", " rules", "rules x", "rule", "rule ", "rule  one", "rule one ", "rule one two",
            " rule one", "Rules", "outcomes", "outcomes ", "outcomes admin,a ", "outcomes  admin,a", "outcomes admin a",
            "outcomes admin,", "outcomes ,a", "outcomes admin,,a", "outcomes ,", "deciders", "deciders admin,",
            "deciders admin,a x", "stronger", "stronger one", "stronger one ", "stronger one  two", "stronger one two x",
            "stronger one two ", "idle ", "idle x", " idle", "moment ", "moment 1", "undo ", "undo x", " undo", "redo redo",
            "at", "at ", "at 1", "at 1 ", "at  1 idle", "at 1  idle", "at 1 idle ", "at 1 idle x", " at 1 idle", "at idle 1",
            "at 1 rules", "at 1 rule one", "at 1 moment", "at 1 undo", "at 1 at 1 idle", "at 1 drop one", "at 1 outcomes",
            "at 1 outcomes admin,", "at 999 outcomes admin,,a", "at 999 deciders ,", "at 999 stronger one", "at 999 idles",
            "at 1 outcomesadmin,a", "at 1 compare one two", "explain admin,a deny", "certain", "ranking", "history", "names",
            "drop", "drop ", "drop one ", "drop one two", "add", "add three", "add three deny", "add three deny ",
            "observe admin,a", "observe admin, deny", "observe admin,a deny,", "observe admin,a  deny", "compare one",
            "compare one two three", "schema a=1", "effects x", "done", "unknown", "none", "error unknownrule",
        ]
        for line in lines:
            self.assertEqual(console.run(line), "unknown", line)
        self.assertEqual(console.ledger(), two_rules())
        self.assertEqual(console.ledger().history(), (2, 0))
        self.assertEqual(console.log(), [(line, "unknown") for line in lines])

    def test_commands_and_steps(self):
        console = Console(two_rules())
        self.check(console, [
            ("add three deny  ( any )", "done"), ("rule three", "deny any"), ("above three one", "done"),
            ("below two one", "done"), ("swap two one", "done"), ("lower two", "done"), ("raise one", "done"),
            ("observe admin,b deny,allow,none", "done"), ("compare one two", "done"), ("rewrite one deny !any", "done"),
            ("drop three", "done"), ("moment", "12"), ("undo", "done"), ("moment", "11"), ("rules", "one three two"),
            ("redo", "done"), ("redo", "error nothingleft"), ("rules", "one two"), ("idle", "one"), ("undo", "done"),
            ("drop two", "done"), ("redo", "error nothingleft"), ("rules", "one three"),
        ])
        kept = ("observe", ("admin", "b"), ("allow", "deny", "none"))
        self.assertEqual(console.ledger().deeds()[8], kept)

    def test_errors(self):
        console = Console(two_rules())
        console.run("compare one two")
        self.check(console, [
            ("drop x", "error unknownrule"), ("add A deny any", "error invalidname"), ("add one deny any", "error duplicatename"),
            ("add x deny role=", "error invalidcondition"), ("add x deny x=1", "error unknownfield"),
            ("add x deny role=x", "error unknownvalue"), ("add x none any", "error unknowneffect"),
            ("add x deny !!!!!!!!any", "error limitreached"), ("swap one one", "error samerule"),
            ("compare two one", "error contradiction"), ("observe admin,a deny", "error contradiction"),
            ("observe admin deny", "error invalidrequest"), ("observe admin,a x", "error unknowneffect"),
            ("observe user,b deny", "error nothingmatches"), ("outcomes admin", "error invalidrequest"),
            ("outcomes admin,x", "error invalidrequest"), ("deciders a,b,c", "error invalidrequest"),
            ("stronger one x", "error unknownrule"), ("stronger one one", "error samerule"), ("rule x", "error unknownrule"),
            ("rule !", "error unknownrule"), ("redo", "error nothingleft"), ("above one two", "done"),
            ("compare two one", "error knownorder"), ("moment", "4"),
        ])

    def test_names_such_as_any_and_none(self):
        console = Console(Ledger(role_and_path(), ["any", "done"]))
        self.check(console, [
            ("add none any path=a", "done"), ("rules", "none"), ("rule none", "any path=a"), ("add any done any", "done"),
            ("rules", "any none"), ("raise none", "done"), ("deciders admin,a", "none"), ("outcomes admin,a", "any"),
            ("deciders admin,b", "any"), ("outcomes admin,b", "done"), ("stronger none any", "yes"), ("raise any", "done"),
            ("idle", "none"), ("deciders user,a", "any"), ("add at any any", "done"), ("add rules done any", "done"),
            ("rule at", "any any"), ("rule rules", "done any"), ("rules", "any at none rules"), ("drop none", "done"),
            ("lower rules", "done"), ("idle", "rules"),
        ])


class Consoles(unittest.TestCase):
    def test_drawn_lines(self):
        seen = collections.Counter()
        for seed in range(12):
            source = random.Random(seed)
            ledger = load(SAMPLE)
            twin = load(SAMPLE)
            console = Console(ledger)
            expected = []
            for k in range(150):
                line = drawn_line(source, twin)
                expected.append((line, own_answer(twin, line)))
                self.assertEqual(console.run(line), expected[-1][1], line)
                self.assertEqual((ledger, ledger.history()), (twin, twin.history()))
                seen[expected[-1][1].split(" ")[0]] += 1
            self.assertEqual(console.log(), expected)
            self.assertEqual(len(console), 150)
        self.assertGreater(min(seen[word] for word in ("done", "unknown", "error", "yes", "no", "open", "none")), 5)

    def test_the_ledger_is_not_copied(self):
        ledger = two_rules()
        console = Console(ledger=ledger)
        self.assertIs(console.ledger(), ledger)
        ledger.compare("one", "two")
        self.assertEqual(console.run(line="stronger one two"), "yes")
        console.run("drop one")
        self.assertEqual(ledger.names(), ["two"])

    def test_two_consoles_on_one_ledger(self):
        ledger = two_rules()
        one, other = Console(ledger), Console(ledger)
        self.assertEqual((one.run("drop one"), other.run("rules")), ("done", "two"))
        self.assertEqual((other.run("undo"), one.run("rules")), ("done", "one two"))
        self.assertEqual((other.run("moment"), one.run("redo"), other.run("moment")), ("2", "done", "3"))
        self.assertEqual(one.log(), [("drop one", "done"), ("rules", "one two"), ("redo", "done")])
        self.assertEqual(other.log(), [("rules", "two"), ("undo", "done"), ("moment", "2"), ("moment", "3")])
        self.assertEqual((len(one), len(other)), (3, 4))

    def test_the_log(self):
        console = Console(two_rules())
        self.assertEqual((len(console), console.log()), (0, []))
        for line in ("rules", "fly", "drop x", "", "drop one", "rules"):
            console.run(line)
        expected = [("rules", "one two"), ("fly", "unknown"), ("drop x", "error unknownrule"), ("", "unknown"),
                    ("drop one", "done"), ("rules", "two")]
        self.assertEqual((console.log(), len(console)), (expected, 6))
        self.assertEqual({type(pair) for pair in console.log()}, {tuple})
        console.log().clear()
        console.log().append(("x", "y"))
        self.assertEqual((console.log(), len(console)), (expected, 6))

    def test_queries_change_nothing(self):
        ledger = two_rules()
        ledger.undo()
        console = Console(ledger)
        for line in ("rules", "rule one", "outcomes admin,a", "deciders admin,a", "idle", "moment", "at 0 idle", "drop x"):
            self.assertEqual(console.run(line), console.run(line))
        self.assertEqual((ledger.history(), ledger.present()), ((1, 1), 1))


def drawn_line(source, ledger):
    """Commands, queries, and lines that nearly are such."""
    record = Record()
    for deed in ledger.deeds():
        record.do(deed)
    names = ledger.names() + ["x"]
    request = ",".join(source.choice(record.requests + [("x",)]))
    timed = [f"outcomes {request}", f"deciders {request}", "idle"]
    timed += [f"stronger {source.choice(names)} {source.choice(names)}"] * 4
    queries = timed + ["rules", "moment", f"rule {source.choice(names)}", "undo", "undo", "redo"]
    queries += [f"at {source.choice([0, 1, 2, 3, ledger.present(), 77, '01'])} {source.choice(timed)}"] * 4
    if source.random() < 0.35:
        command = drawn_command(source, record, 0)
        line = text_of(command)
    else:
        line = source.choice(queries)
    return drawn_edit(source, line).replace("\n", "") if source.random() < 0.25 else line


if __name__ == "__main__":
    unittest.main()
