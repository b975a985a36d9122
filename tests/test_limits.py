"""[17], [19] the limits, at the limit and one beyond; errors of commands in their order, with several faults at once."""

import itertools
import unittest

from hiddenrank import errors
from hiddenrank.errors import (BatchFailed, Contradiction, InvalidCommand, InvalidOutcomes, InvalidRequest, KnownOrder,
                               LimitReached, NothingMatches, SameRule, UnknownEffect, UnknownRule)
from hiddenrank.ledgers import Ledger
from tests.problems import own_is_deadlock
from tests.support import ErrorChecks, role_and_path

LETTERS = "abcdefghij"


def ledger_with(rules, slots=None, deeds=None):
    """A ledger with so many rules, slots and deeds; all rules match the requests of admins and have the effects in turn."""
    ledger = Ledger(role_and_path(), ["allow", "deny"])
    for at in range(rules):
        ledger.add_rule(LETTERS[at], "role=admin", ["allow", "deny"][at % 2])
    while slots is not None and len(ledger.layout()) < slots:
        ledger.apply(("raise", LETTERS[len(ledger.layout()) % rules]))
    while deeds is not None and ledger.present() < deeds:
        ledger.apply(("observe", ("user", "b"), ("none",)))
    return ledger


def snapshot(ledger):
    return ledger.deeds(), ledger.problem(), ledger.history(), ledger.layout().slots(), repr(ledger)


class Checks(unittest.TestCase, ErrorChecks):
    def assert_refused(self, ledger, command, kind, **fields):
        """By itself and in a batch; nothing changes."""
        before = snapshot(ledger)
        self.assert_error(kind, fields, ledger.apply, command)
        self.assertEqual(snapshot(ledger), before)
        reason = {"position": 0, "reason": kind.__name__.lower()}
        self.assert_error(BatchFailed, reason, ledger.apply_all, [command, ("drop", "a")])
        self.assertEqual(snapshot(ledger), before)


class Limits(Checks):
    def test_rules(self):
        ledger = ledger_with(9)
        ledger.add_rule("j", "any", "deny")
        self.assertEqual(len(ledger), 10)
        self.assert_refused(ledger, ("add", "k", "any", "deny"), LimitReached, limit=10)
        self.assert_error(LimitReached, {"limit": 10}, ledger.add_rule, "k", "any", "deny")
        ledger.apply(("drop", "c"))
        ledger.add_rule("k", "any", "deny")
        self.assertEqual(len(ledger), 10)
        self.assert_refused(ledger, ("add", "c", "any", "deny"), LimitReached, limit=10)
        # Earlier moments have fewer rules, but only the present ones count.
        self.assertEqual([len(ledger.names(moment=moment)) for moment in range(13)], [*range(11), 9, 10])

    def test_slots(self):
        for word in ("add", "raise", "lower"):
            ledger = ledger_with(3, 29)
            command = ("add", "x", "any", "deny") if word == "add" else (word, "a")
            ledger.apply(command)
            self.assertEqual(len(ledger.layout()), 30)
            for beyond in (("add", "y", "any", "deny"), ("raise", "a"), ("lower", "a")):
                self.assert_refused(ledger, beyond, LimitReached, limit=30)
            ledger.apply_all([("above", "a", "b"), ("drop", "c"), ("swap", "a", "b"), ("rewrite", "a", "any", "deny")])
            self.assert_refused(ledger, ("add", "y", "any", "deny"), LimitReached, limit=30)
            self.assertEqual((ledger.problem()[0], len(ledger.ranking())), (30, 3 if word == "add" else 2))
            ledger.undo()
            ledger.undo()
            ledger.apply(command)

    def test_reports(self):
        ledger = ledger_with(2)
        for at in range(40):
            ledger.observe(("admin", "a"), ["allow"])
        self.assertEqual(len(ledger.problem()[2]), 40)
        for outcomes in (("allow",), ("deny",), ("none",), ("allow", "deny")):
            self.assert_refused(ledger, ("observe", ("admin", "a"), outcomes), LimitReached, limit=40)
        # Without a report there is no limit of reports.
        self.assert_refused(ledger, ("observe", ("user", "a"), ("allow",)), NothingMatches, number=3)
        ledger.observe(("user", "a"), ["none", "allow"])
        ledger.compare("a", "b")
        with self.assertRaises(Contradiction) as caught:
            ledger.compare("b", "a")
        size, pairs, reports = ledger.problem()
        self.assertTrue(own_is_deadlock(size, pairs + [(1, 0)], reports, caught.exception.deadlock))
        self.assertEqual((ledger.present(), len(ledger.problem()[2])), (44, 40))
        ledger.undo(), ledger.undo(), ledger.undo()
        ledger.observe(("admin", "b"), ["allow"])

    def test_deeds(self):
        commands = [
            ("add", "x", "any", "deny"), ("rewrite", "a", "any", "deny"), ("drop", "a"), ("raise", "a"), ("lower", "a"),
            ("above", "a", "b"), ("below", "a", "b"), ("swap", "a", "b"), ("compare", "a", "b"),
            ("observe", ("admin", "a"), ("deny",)), ("observe", ("user", "a"), ("none",))]
        for command in commands:
            ledger = ledger_with(3, deeds=119)
            ledger.apply(command)
            self.assertEqual(ledger.present(), 120)
            for beyond in commands:
                self.assert_refused(ledger, beyond, LimitReached, limit=120)
            ledger.undo()
            self.assertEqual(ledger.present(), 119)
            ledger.redo()
            self.assertEqual(ledger.present(), 120)
            self.assertEqual(ledger.names(moment=120), ledger.names())
            self.assert_error(errors.InvalidMoment, {"moment": 121}, ledger.names, moment=121)

    def test_deeds_in_batches(self):
        ledger = ledger_with(3, deeds=110)
        ten = [("swap", "a", "b")] * 10
        failed = {"position": 10, "reason": "limitreached"}
        self.assert_error(BatchFailed, failed, ledger.apply_all, ten + [("swap", "a", "b")])
        self.assert_error(BatchFailed, failed, ledger.apply_all, ten + [("swap", "x", "y")] * 500)
        self.assert_error(BatchFailed, {"position": 10, "reason": "invalidcommand"}, ledger.apply_all, ten + [()])
        self.assertEqual(ledger.present(), 110)
        ledger.apply_all(ten)
        self.assertEqual(ledger.present(), 120)
        ledger.apply_all([])
        self.assert_error(BatchFailed, {"position": 0, "reason": "limitreached"}, ledger.apply_all, ten)
        empty = Ledger(role_and_path(), ["allow"])
        empty.apply_all([("observe", ("user", "a"), ("none",))] * 120)
        self.assertEqual((empty.present(), empty.history()), (120, (1, 0)))
        one_more = [("observe", ("user", "a"), ("none",))] * 121
        failed = {"position": 120, "reason": "limitreached"}
        self.assert_error(BatchFailed, failed, Ledger(role_and_path(), ["allow"]).apply_all, one_more)

    def test_rewrite_names_the_rule_before_the_limit(self):
        ledger = ledger_with(2, deeds=120)
        self.assert_error(UnknownRule, {"name": "x"}, ledger.rewrite, "x", condition="role=", effect="x")
        self.assert_error(LimitReached, {"limit": 120}, ledger.rewrite, "a", condition="role=", effect="x")
        self.assert_error(LimitReached, {"limit": 120}, ledger.rewrite, "a")
        self.assert_error(LimitReached, {"limit": 120}, ledger.apply, ("rewrite", "x", "any", "deny"))
        self.assert_error(LimitReached, {"limit": 120}, ledger.add_rule, "A", "", "")
        self.assert_error(LimitReached, {"limit": 120}, ledger.observe, (), [])
        self.assert_error(LimitReached, {"limit": 120}, ledger.compare, "x", "x")


class Faults(Checks):
    def test_tuples_that_are_no_command(self):
        lengths = dict(add=4, rewrite=4, drop=2, lower=2, above=3, below=3, swap=3, observe=3, compare=3)
        lengths["raise"] = 2
        for ledger in (ledger_with(2), ledger_with(2, deeds=120), ledger_with(10, 30)):
            for command in [(), ("",), ("fly",), ("fly", "a", "b"), ("Drop", "a"), ("drop ", "a"), ("undo",), ("redo",),
                            ("rules",), ("none", "a"), ("add one any allow",), ("", "", "", "")]:
                self.assert_refused(ledger, command, InvalidCommand)
            for word, length in lengths.items():
                for other in [1, 2, 3, 4, 5, 6]:
                    if other != length:
                        self.assert_refused(ledger, (word,) + ("a",) * (other - 1), InvalidCommand)

    def test_add(self):
        """Every choice of faults; the first one in the documented order is raised."""
        names = [("A", errors.InvalidName, {"name": "A"}), ("", errors.InvalidName, {"name": ""}),
                 ("abcdefghi", errors.InvalidName, {"name": "abcdefghi"}), ("a", errors.DuplicateName, {"name": "a"}),
                 ("x", None, {})]
        ledgers = [(ledger_with(2), None), (ledger_with(10), 10), (ledger_with(2, 30), 30), (ledger_with(10, 30), 10),
                   (ledger_with(2, deeds=120), 120)]
        for (ledger, limit), name, text, effect in itertools.product(ledgers, names, self.texts(), self.effects()):
            faults = [(kind, fields) for value, kind, fields in (name, text, effect) if kind is not None]
            if limit is not None:
                faults.insert(0 if limit == 120 else len(faults), (LimitReached, {"limit": limit}))
            if faults:
                kind, fields = faults[0]
                self.assert_refused(ledger, ("add", name[0], text[0], effect[0]), kind, **fields)
            else:
                self.assertIsNone(ledger.clone().apply(("add", name[0], text[0], effect[0])))

    def test_rewrite(self):
        names = [("A", UnknownRule, {"name": "A"}), ("x", UnknownRule, {"name": "x"}), ("b", None, {})]
        for ledger in (ledger_with(2), ledger_with(10, 30), ledger_with(2, deeds=120)):
            for name, text, effect in itertools.product(names, self.texts(), self.effects()):
                faults = [(kind, fields) for value, kind, fields in (name, text, effect) if kind is not None]
                if ledger.present() == 120:
                    faults.insert(0, (LimitReached, {"limit": 120}))
                if faults:
                    kind, fields = faults[0]
                    self.assert_refused(ledger, ("rewrite", name[0], text[0], effect[0]), kind, **fields)
                else:
                    self.assertIsNone(ledger.clone().apply(("rewrite", name[0], text[0], effect[0])))

    def texts(self):
        return [("role=", errors.InvalidCondition, {"position": 5}), ("x=a", errors.UnknownField, {"name": "x"}),
                ("role=x | y=x", errors.UnknownValue, {"value": "x"}), ("!" * 8 + "any", LimitReached, {"limit": 8}),
                ("|".join(["x=y"] * 30), LimitReached, {"limit": 30}), ("any", None, {})]

    def effects(self):
        return [("none", UnknownEffect, {"name": "none"}), ("", UnknownEffect, {"name": ""}), ("deny", None, {})]

    def test_commands_about_one_rule(self):
        for ledger, limit in ((ledger_with(2), None), (ledger_with(2, 30), 30), (ledger_with(2, deeds=120), 120)):
            for word in ("drop", "raise", "lower"):
                for name in ("x", "", "A"):
                    if limit == 120:
                        self.assert_refused(ledger, (word, name), LimitReached, limit=120)
                    else:
                        self.assert_refused(ledger, (word, name), UnknownRule, name=name)
                if limit == 120 or limit == 30 and word != "drop":
                    self.assert_refused(ledger, (word, "a"), LimitReached, limit=limit)
                else:
                    self.assertIsNone(ledger.clone().apply((word, "a")))

    def test_commands_about_two_rules(self):
        for ledger in (ledger_with(2), ledger_with(10, 30)):
            for word in ("above", "below", "swap", "compare"):
                self.assert_refused(ledger, (word, "x", "y"), UnknownRule, name="x")
                self.assert_refused(ledger, (word, "y", "x"), UnknownRule, name="y")
                self.assert_refused(ledger, (word, "x", "a"), UnknownRule, name="x")
                self.assert_refused(ledger, (word, "a", "x"), UnknownRule, name="x")
                self.assert_refused(ledger, (word, "x", "x"), UnknownRule, name="x")
                self.assert_refused(ledger, (word, "a", "a"), SameRule, name="a")
            together = ledger.clone()
            together.apply(("above", "a", "b"))
            self.assert_refused(together, ("compare", "b", "a"), KnownOrder, name="b", other="a")
            self.assertIsNone(together.apply(("compare", "a", "b")))

    def test_observe(self):
        ledger = ledger_with(2)
        requests = [((), InvalidRequest, {"position": -1}), (("admin",), InvalidRequest, {"position": -1}),
                    (("x", "y"), InvalidRequest, {"position": 0}), (("admin", "y"), InvalidRequest, {"position": 1}),
                    (("admin", "a"), None, {}), (("user", "b"), None, {})]
        outcomes = [((), InvalidOutcomes, {}), (("x", "y"), UnknownEffect, {"name": "x"}),
                    (("none", "allow", "y", "x"), UnknownEffect, {"name": "y"}), (("allow",), None, {})]
        for request, allowed in itertools.product(requests, outcomes):
            faults = [(kind, fields) for value, kind, fields in (request, allowed) if kind is not None]
            if request[0] == ("user", "b"):
                faults.append((NothingMatches, {"number": 4}))
            if faults:
                kind, fields = faults[0]
                self.assert_refused(ledger, ("observe", request[0], allowed[0]), kind, **fields)
            else:
                self.assertIsNone(ledger.clone().apply(("observe", request[0], allowed[0])))

    def test_observe_with_all_reports(self):
        ledger = ledger_with(2)
        for at in range(40):
            ledger.observe(("admin", "a"), ["allow"])
        self.assert_refused(ledger, ("observe", ("admin", "x"), ()), InvalidRequest, position=1)
        self.assert_refused(ledger, ("observe", ("admin", "a"), ()), InvalidOutcomes)
        self.assert_refused(ledger, ("observe", ("admin", "a"), ("deny", "x")), UnknownEffect, name="x")
        self.assert_refused(ledger, ("observe", ("user", "a"), ("deny",)), NothingMatches, number=3)
        self.assert_refused(ledger, ("observe", ("admin", "a"), ("deny",)), LimitReached, limit=40)

    def test_refused_evidence_changes_nothing(self):
        ledger = ledger_with(2)
        ledger.compare("a", "b")
        ledger.apply(("swap", "a", "b"))
        ledger.undo()
        before = snapshot(ledger)
        for call, arguments in [(ledger.compare, ("b", "a")), (ledger.observe, (("admin", "a"), ["deny"])),
                                (ledger.observe, (("admin", "a"), ["none"]))]:
            self.assertRaises(Contradiction, call, *arguments)
            self.assertEqual(snapshot(ledger), before)
        ledger.redo()
        self.assertEqual(ledger.layout().slots(), [["b"], ["a"]])


if __name__ == "__main__":
    unittest.main()
