"""[14], [15], [17], [19] drawn commands of all kinds against the records of the tests."""

import collections
import random
import unittest

from hiddenrank import errors
from hiddenrank.conditions import format_condition
from hiddenrank.errors import NotFound, RankError
from hiddenrank.ledgers import Ledger
from tests.problems import own_is_deadlock
from tests.records import NAMES, Record, Refused, drawn_command, drawn_request, ledger_of
from tests.support import fields_of, role_and_path

EMPTY_BY_MOVES = [
    ("add", "a", "any", "deny"), ("add", "b", "path=a", "allow"), ("above", "a", "b"), ("raise", "b"), ("drop", "a"),
    ("lower", "b"), ("add", "a", "any", "ask"), ("swap", "a", "b"), ("below", "b", "a"), ("swap", "b", "a"),
    ("rewrite", "a", "role=admin", "deny"), ("above", "b", "a"), ("above", "b", "a"), ("compare", "b", "a"),
]


class DrawnDeeds(unittest.TestCase):
    def check_moment(self, ledger, record, moment):
        rules, slots = record.moments[moment]
        self.assertEqual(ledger.names(moment=moment), sorted(rules))
        self.assertEqual(ledger.layout(moment=moment).slots(), slots)
        for name in NAMES + ["", "x"]:
            if name in rules:
                expected = (format_condition(rules[name][0]), rules[name][1])
                self.assertEqual(ledger.rule(name, moment=moment), expected)
            else:
                with self.assertRaises(errors.UnknownRule) as caught:
                    ledger.rule(name, moment=moment)
                self.assertEqual(caught.exception.name, name)
        for request in record.requests:
            self.assertEqual(ledger.speakers(request, moment=moment), record.speakers(request, moment))

    def check_present(self, ledger, record):
        rules, slots = record.moments[-1]
        self.assertEqual((ledger.present(), ledger.deeds()), (len(record.deeds), record.deeds))
        self.assertEqual(ledger.problem(), record.problem())
        self.assertEqual((ledger.names(), ledger.layout().slots()), (sorted(rules), slots))
        self.assertEqual((len(ledger), repr(ledger)), (len(rules), f"Ledger({len(rules)} rules, {len(record.deeds)} deeds)"))
        self.check_moment(ledger, record, len(record.deeds))
        for reason, number in record.origins.items():
            self.assertEqual(ledger.sources(((0,), (reason,))), [number])

    def check_all_moments(self, ledger, record):
        self.check_present(ledger, record)
        for moment in range(len(record.deeds) + 1):
            self.check_moment(ledger, record, moment)

    def do_both(self, ledger, record, command):
        """Does a command on both; returns the word of the command, or of its error."""
        try:
            record.do(command)
        except Refused as refused:
            with self.assertRaises((RankError, NotFound), msg=command) as caught:
                ledger.apply(command)
            self.check_error(caught.exception, refused, command)
            return caught.exception.word
        self.assertIsNone(ledger.apply(command))
        return command[0]

    def check_error(self, error, refused, command):
        self.assertIs(type(error), refused.kind, command)
        if refused.kind is errors.Contradiction:
            self.assertTrue(own_is_deadlock(*refused.fields["deadlock"], error.deadlock), command)
        else:
            self.assertEqual(fields_of(error), refused.fields, command)

    def test_all_kinds_of_moves(self):
        record = Record()
        ledger = ledger_of(record)
        for command in EMPTY_BY_MOVES:
            self.assertEqual(self.do_both(ledger, record, command), command[0])
            self.check_all_moments(ledger, record)
        self.assertEqual(ledger.layout().slots(), [[], [], [], ["b", "a"], []])
        self.assertEqual(ledger.problem(), (5, [(2, 0), (2, 1), (0, 3), (1, 3), (2, 3)], []))

    def test_drawn_sequences(self):
        seen = collections.Counter()
        for seed in range(40):
            source = random.Random(seed)
            record = Record()
            ledger = ledger_of(record)
            for k in range(source.choice([5, 25, 60])):
                seen[self.do_both(ledger, record, drawn_command(source, record, source.choice([0, 0.02, 0.2])))] += 1
                self.check_present(ledger, record)
            self.check_all_moments(ledger, record)
        words = ["add", "rewrite", "drop", "raise", "lower", "above", "below", "swap", "observe", "compare",
                 "invalidcommand", "invalidname", "duplicatename", "invalidcondition", "limitreached", "unknownfield",
                 "unknownvalue", "unknowneffect", "unknownrule", "samerule", "invalidrequest", "invalidoutcomes",
                 "nothingmatches", "knownorder", "contradiction"]
        self.assertEqual(sorted(seen), sorted(words))
        self.assertGreater(seen["contradiction"], 50)

    def test_full_ledgers(self):
        """Long sequences, which reach the limits of deeds and slots."""
        limits = collections.Counter()
        for seed in range(4):
            source = random.Random(100 + seed)
            record = Record()
            ledger = ledger_of(record)
            for k in range(260):
                command = drawn_command(source, record, 0.01, most_slots=99)
                if self.do_both(ledger, record, command) == "limitreached":
                    limits[len(record.deeds)] += 1
            self.check_all_moments(ledger, record)
        self.assertGreater(limits[120], 0)
        self.assertGreater(sum(limits.values()), limits[120])

    def test_moves_after_evidence_do_not_touch_it(self):
        ledger = Ledger(role_and_path(), ["allow", "deny"])
        ledger.apply_all([("add", "a", "any", "allow"), ("add", "b", "any", "deny"), ("compare", "a", "b"),
                          ("observe", ("admin", "a"), ("allow",))])
        problem = ledger.problem()
        self.assertEqual(problem, (2, [(0, 1)], [((0, 1), (0,))]))
        ledger.apply(("swap", "a", "b"))
        ledger.apply(("rewrite", "a", "path=c", "deny"))
        ledger.apply(("drop", "a"))
        self.assertEqual(ledger.problem(), problem)
        self.assertEqual(ledger.outcomes(("user", "c")), ["deny"])
        self.assertEqual(ledger.outcomes(("user", "c"), moment=4), ["allow"])
        self.assertEqual(ledger.outcomes(("user", "c"), moment=5), ["deny"])

    def test_equal_ledgers_give_equal_results(self):
        for seed in range(12):
            source = random.Random(200 + seed)
            record = Record()
            for k in range(30):
                try:
                    record.do(drawn_command(source, record, 0))
                except Refused:
                    pass
            one = ledger_of(record)
            other = Ledger(record.schema, record.effects)
            middle = source.randint(1, len(record.deeds))
            other.apply_all(record.deeds[:middle])
            other.apply_all(tuple(record.deeds[middle:]))
            self.assertEqual(one, other)
            for call in all_queries(record, source):
                self.assertEqual(call(one), call(other))
                self.assertEqual(call(one), call(one))
            self.check_all_moments(one, record)


def all_queries(record, source):
    """Calls of every query, with drawn moments."""
    calls = [lambda ledger: ledger.problem(), lambda ledger: ledger.deeds(), lambda ledger: ledger.present()]
    for moment in [None] + [source.randint(0, len(record.deeds)) for k in range(4)]:
        calls.append(lambda ledger, m=moment: (ledger.names(moment=m), ledger.layout(moment=m).slots()))
        calls.append(lambda ledger, m=moment: (ledger.ranking(moment=m), ledger.certain(moment=m), ledger.idle(moment=m)))
        calls.append(lambda ledger, m=moment: ledger.first_change(0 if m is None else m, len(record.deeds)))
        for k in range(3):
            request = drawn_request(source, record, 0)
            calls.append(lambda ledger, m=moment, r=request: (ledger.outcomes(r, moment=m), ledger.deciders(r, moment=m)))
            for outcome in record.effects + ["none"]:
                calls.append(lambda ledger, m=moment, r=request, o=outcome: ledger.explain(r, o, moment=m))
    return calls


if __name__ == "__main__":
    unittest.main()
