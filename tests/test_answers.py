"""[16] every answer of small ledgers against all orders that agree; large ledgers with a known hidden order."""

import itertools
import random
import time
import unittest

from hiddenrank.deadlocks import is_deadlock
from hiddenrank.errors import Contradiction
from hiddenrank.ledgers import Ledger
from hiddenrank.orders import agrees
from hiddenrank.schemas import Schema
from tests.problems import order_agrees, own_is_deadlock
from tests.records import Record, Refused, drawn_command, ledger_of
from tests.support import role_and_path


def drawn_record(seed, many, most_slots=5):
    """The record of some drawn deeds, with few slots."""
    source = random.Random(seed)
    record = Record()
    while len(record.deeds) < many:
        try:
            record.do(drawn_command(source, record, 0, most_slots=most_slots))
        except Refused:
            pass
    return record


class SmallLedgers(unittest.TestCase):
    def setUp(self):
        self.certificates = {"possible": 0, "impossible": 0, "nothing": 0}
        self.answers = {"yes": 0, "no": 0, "open": 0}

    def check_request(self, ledger, record, orders, request, moment):
        outcomes = {record.outcome_in(order, request, moment) for order in orders}
        deciders = {record.decider_in(order, request, moment) for order in orders} - {None}
        expected = [effect for effect in record.effects + ["none"] if effect in outcomes]
        self.assertEqual(ledger.outcomes(request, moment=moment), expected)
        self.assertEqual(ledger.deciders(request, moment=moment), sorted(deciders))
        for outcome in record.effects + ["none"]:
            self.check_explained(ledger, record, orders, request, outcome, moment)
        return expected, deciders

    def check_explained(self, ledger, record, orders, request, outcome, moment):
        answer = ledger.explain(request, outcome, moment=moment)
        self.assertIs(type(answer), tuple)
        word, certificate = answer
        self.certificates[word] += 1
        size, pairs, reports = record.problem()
        report = record.report(request, [outcome], moment)
        if word == "possible":
            self.assertIs(type(certificate), list)
            self.assertIn(tuple(certificate), orders)
            self.assertEqual(record.outcome_in(certificate, request, moment), outcome)
        elif word == "impossible":
            self.assertTrue(report[0])
            self.assertTrue(own_is_deadlock(size, pairs, reports + [report], certificate))
            self.assertNotIn(outcome, [record.outcome_in(order, request, moment) for order in orders])
        else:
            self.assertEqual(certificate, record.requests.index(request))
            self.assertTrue(report[0] == () and outcome != "none")

    def check_rules(self, ledger, record, orders, moment, deciding):
        names = sorted(record.moments[moment][0])
        rankings = [record.ranking_in(order, moment) for order in orders]
        self.assertIn(ledger.ranking(moment=moment), rankings)
        self.assertEqual(ledger.idle(moment=moment), [name for name in names if name not in deciding])
        for name, other in itertools.permutations(names, 2):
            found = {ranking.index(name) < ranking.index(other) for ranking in rankings}
            expected = "open" if len(found) == 2 else "yes" if found == {True} else "no"
            self.assertEqual(ledger.stronger(name, other, moment=moment), expected)
            self.answers[expected] += 1

    def check_ledger(self, ledger, record):
        orders = record.possible_orders()
        self.assertTrue(orders)
        lists = []
        for moment in range(len(record.deeds) + 1):
            found = [self.check_request(ledger, record, orders, request, moment) for request in record.requests]
            lists.append([outcomes for outcomes, deciders in found])
            self.check_rules(ledger, record, orders, moment, set().union(*[deciders for outcomes, deciders in found]))
            certain = [number for number, outcomes in enumerate(lists[-1]) if len(outcomes) == 1]
            self.assertEqual(ledger.certain(moment=moment), certain)
        for one, other in itertools.product(range(len(lists)), repeat=2):
            changed = [number for number in range(len(record.requests)) if lists[one][number] != lists[other][number]]
            self.assertEqual(ledger.first_change(one, other), changed[0] if changed else None)

    def check_present(self, ledger, record):
        """None stands for the present moment."""
        now = len(record.deeds)
        for request in record.requests:
            self.assertEqual(ledger.outcomes(request), ledger.outcomes(request, moment=now))
            self.assertEqual(ledger.deciders(request), ledger.deciders(request, moment=now))
            self.assertEqual(ledger.speakers(request), ledger.speakers(request, moment=now))
            for outcome in record.effects + ["none"]:
                self.assertEqual(ledger.explain(request, outcome), ledger.explain(request, outcome, moment=now))
        for call in (ledger.certain, ledger.idle, ledger.ranking, ledger.names, ledger.layout):
            self.assertEqual(call(), call(moment=now))
        for name, other in itertools.permutations(ledger.names(), 2):
            self.assertEqual(ledger.stronger(name, other), ledger.stronger(name, other, moment=now))

    def test_drawn_ledgers(self):
        for seed in range(24):
            record = drawn_record(seed, 4 + seed % 12)
            ledger = ledger_of(record)
            before = ledger.clone()
            self.check_ledger(ledger, record)
            self.check_present(ledger, record)
            self.assertEqual((ledger, ledger.history()), (before, before.history()))
        self.assertGreater(min(self.certificates.values()), 100)
        self.assertGreater(min(self.answers.values()), 50)

    def test_later_evidence_counts_for_earlier_moments(self):
        ledger = Ledger(role_and_path(), ["allow", "deny"])
        ledger.add_rule("one", "role=admin", "allow")
        ledger.add_rule("two", "path=a", "deny")
        request = ("admin", "a")
        self.assertEqual(ledger.outcomes(request), ["allow", "deny"])
        ledger.apply(("swap", "one", "two"))
        ledger.compare("one", "two")
        self.assertEqual(ledger.outcomes(request), ["allow"])
        self.assertEqual(ledger.outcomes(request, moment=2), ["deny"])
        self.assertEqual(ledger.stronger("one", "two", moment=2), "no")
        self.assertEqual(ledger.ranking(moment=2), ["two", "one"])
        self.assertEqual(ledger.outcomes(request, moment=1), ["allow"])
        self.assertEqual([ledger.first_change(2, 3), ledger.first_change(3, 4), ledger.first_change(0, 1)], [0, None, 0])

    def test_the_four_results_of_explain(self):
        ledger = Ledger(role_and_path(), ["allow", "deny"])
        ledger.add_rule("one", "role=admin", "allow")
        ledger.add_rule("two", "path=a", "deny")
        ledger.observe(("admin", "a"), ["deny"])
        self.assertEqual(ledger.explain(("admin", "a"), "deny"), ("possible", [1, 0]))
        self.assertEqual(ledger.explain(("user", "b"), "none"), ("possible", [1, 0]))
        self.assertEqual(ledger.explain(("user", "b"), "deny"), ("nothing", 4))
        word, deadlock = ledger.explain(("admin", "a"), "allow")
        self.assertEqual(word, "impossible")
        self.assertTrue(is_deadlock(2, [], [((0, 1), (1,)), ((0, 1), (0,))], deadlock))
        word, deadlock = ledger.explain(("admin", "b"), "none")
        self.assertEqual((word, deadlock), ("impossible", ((0,), (("report", 1),))))
        self.assertEqual(ledger.sources(deadlock), [])

    def test_more_evidence_never_makes_more_possible(self):
        for seed in range(20):
            record = drawn_record(50 + seed, 8)
            ledger = ledger_of(record)
            source = random.Random(seed)
            for k in range(12):
                before = [ledger.outcomes(request, moment=8) for request in record.requests]
                try:
                    ledger.observe(source.choice(record.requests), record.effects[:source.randint(1, 2)] + ["none"])
                except Contradiction:
                    pass
                after = [ledger.outcomes(request, moment=8) for request in record.requests]
                for few, many in zip(after, before):
                    self.assertTrue(few and set(few) <= set(many))


class LargeLedgers(unittest.TestCase):
    """30 slots, 10 rules, 6 effects, 400 requests; the evidence is true for a hidden order that the tests know."""

    FIELDS = [("a", list("01234")), ("b", list("0123")), ("c", list("01234")), ("d", list("0123"))]
    EFFECTS = ["p", "q", "r", "s", "t", "u"]
    NAMES = [f"rule{letter}" for letter in "abcdefghij"]

    def drawn_condition(self, source):
        tests = [f"{name}={source.choice(values)}" for name, values in source.sample(self.FIELDS, 3)]
        return source.choice([" | ".join(tests), "!" + tests[0], f"{tests[0]} | {tests[1]} & !{tests[2]}", "any"])

    def make(self, seed):
        """A ledger with 30 slots, its hidden order and the record of its deeds."""
        source = random.Random(seed)
        record = Record(self.FIELDS, self.EFFECTS)
        hidden = []
        for name in self.NAMES:
            record.do(("add", name, self.drawn_condition(source), source.choice(self.EFFECTS)))
            hidden.insert(source.randint(0, len(hidden)), len(hidden))
        while len(hidden) < 30:
            word = source.choice(["raise", "lower", "above", "below", "swap", "new", "new"])
            name, other = source.sample(self.NAMES, 2)
            if word in ("above", "below", "swap"):
                record.do((word, name, other))
            elif word == "new":
                record.do(("drop", name))
                record.do(("add", name, self.drawn_condition(source), source.choice(self.EFFECTS)))
                hidden.insert(source.randint(0, len(hidden)), len(hidden))
            else:
                record.do((word, name))
                hidden.insert(0 if word == "raise" else len(hidden), len(hidden))
        return source, record, hidden

    def observe_truly(self, source, record, hidden, many):
        for k in range(many):
            request = source.choice(record.requests)
            others = source.sample(record.effects + ["none"], source.randint(0, 2))
            record.do(("observe", request, (record.outcome_in(hidden, request), *others)))

    def test_hidden_orders(self):
        started = time.monotonic()
        for seed in range(3):
            source, record, hidden = self.make(seed)
            self.observe_truly(source, record, hidden, min(40, 118 - len(record.deeds)))
            ledger = ledger_of(record)
            size, pairs, reports = ledger.problem()
            self.assertEqual((size, pairs, reports), record.problem())
            self.assertTrue(order_agrees(pairs, reports, hidden))
            for moment in (None, 10, len(record.deeds) // 2, len(record.deeds)):
                self.check_moment(source, ledger, record, hidden, moment)
        self.assertLess(time.monotonic() - started, 60)

    def check_moment(self, source, ledger, record, hidden, moment):
        at = -1 if moment is None else moment
        certain = ledger.certain(moment=moment)
        idle = ledger.idle(moment=moment)
        for number in source.sample(range(400), 40):
            request = record.requests[number]
            outcomes = ledger.outcomes(request, moment=moment)
            self.assertIn(record.outcome_in(hidden, request, at), outcomes)
            self.assertEqual(number in certain, len(outcomes) == 1)
            self.assertFalse(set(idle) & set(ledger.deciders(request, moment=moment)))
            self.check_certificates(ledger, record, request, outcomes, moment)
        ranking = record.ranking_in(hidden, at)
        for name, other in zip(ranking, ranking[1:]):
            self.assertIn(ledger.stronger(name, other, moment=moment), ("yes", "open"))
            self.assertIn(ledger.stronger(other, name, moment=moment), ("no", "open"))
        self.assertEqual(sorted(ledger.ranking(moment=moment)), sorted(ranking))

    def check_certificates(self, ledger, record, request, outcomes, moment):
        size, pairs, reports = record.problem()
        for outcome in record.effects + ["none"]:
            report = record.report(request, [outcome], -1 if moment is None else moment)
            word, certificate = ledger.explain(request, outcome, moment=moment)
            if word == "possible":
                self.assertTrue(agrees(size, pairs, reports + ([report] if report[0] else []), certificate))
            elif word == "impossible":
                self.assertTrue(own_is_deadlock(size, pairs, reports + [report], certificate))
            self.assertEqual(word == "possible", outcome in outcomes)
            self.assertEqual(word == "nothing", report[0] == () and outcome != "none")

    def test_a_fully_known_order_leaves_one_answer(self):
        source, record, hidden = self.make(9)
        # One rule in each slot but the empty ones is compared with the next one, so the order of all rules is known.
        ranking = record.ranking_in(hidden)
        for name, other in zip(ranking, ranking[1:]):
            record.do(("compare", name, other))
        ledger = ledger_of(record)
        self.assertEqual(ledger.ranking(), ranking)
        self.assertEqual(ledger.certain(), list(range(400)))
        for number, request in enumerate(record.requests):
            self.assertEqual(ledger.outcomes(request), [record.outcome_in(hidden, request)])
        for name, other in itertools.combinations(ranking, 2):
            self.assertEqual((ledger.stronger(name, other), ledger.stronger(other, name)), ("yes", "no"))
        deciding = {record.decider_in(hidden, request) for request in record.requests}
        self.assertEqual(ledger.idle(), sorted(set(ranking) - deciding))

    def test_all_limits_at_once(self):
        """120 deeds, 30 slots with all their pairs, 40 reports, a schema with 400 requests."""
        started = time.monotonic()
        ledger = Ledger(Schema(self.FIELDS), self.EFFECTS)
        ledger.apply_all([("add", name, f"!a={at % 5} | b={at % 4}", self.EFFECTS[at % 6])
                          for at, name in enumerate(self.NAMES)])
        ledger.apply_all([("raise" if at % 2 else "lower", self.NAMES[at % 10]) for at in range(20)])
        ranking = ledger.ranking()
        requests = [ledger.schema().request_of(number) for number in range(0, 400, 10)]
        for request in requests:
            ledger.observe(request, ledger.outcomes(request))
        while ledger.present() < 120:
            ledger.compare(ranking[0], ranking[-1])
        self.assertEqual([len(part) for part in ledger.problem()[1:]], [390 + 50, 40])
        self.assertEqual(ledger.certain(), list(range(400)))
        self.assertEqual(ledger.ranking(), ranking)
        self.assertEqual(ledger.first_change(120, 30), None)
        self.assertEqual(ledger.idle(moment=0), [])
        for request in requests:
            self.assertEqual(len(ledger.outcomes(request)), 1)
        self.assertLess(time.monotonic() - started, 60)


if __name__ == "__main__":
    unittest.main()
