"""[18] undo, redo, history, clones and batches."""

import collections
import copy
import random
import unittest

from hiddenrank.errors import BatchFailed, NotFound, NothingLeft, RankError
from hiddenrank.ledgers import Ledger
from tests.records import Record, Refused, drawn_command, ledger_of
from tests.support import ErrorChecks, role_and_path


class Tracked:
    """A ledger beside the records of its steps that can be undone and redone."""

    def __init__(self):
        self.past = []
        self.record = Record()
        self.future = []
        self.ledger = ledger_of(self.record)

    def clone(self):
        twin = Tracked()
        twin.past, twin.record, twin.future = copy.deepcopy((self.past, self.record, self.future))
        twin.ledger = self.ledger.clone()
        return twin

    def after(self, commands):
        """The record after some commands, or the position and the word of the first refused one."""
        record = copy.deepcopy(self.record)
        for position, command in enumerate(commands):
            try:
                record.do(command)
            except Refused as refused:
                return None, (position, refused.kind.__name__.lower())
        return record, None

    def step(self, record):
        self.past.append(self.record)
        self.record = record
        self.future = []


class DrawnSteps(unittest.TestCase, ErrorChecks):
    def check(self, tracked):
        ledger, record = tracked.ledger, tracked.record
        self.assertEqual(ledger.history(), (len(tracked.past), len(tracked.future)))
        self.assertEqual((ledger.deeds(), ledger.problem()), (record.deeds, record.problem()))
        self.assertEqual(ledger.present(), len(record.deeds))
        for moment, (rules, slots) in enumerate(record.moments):
            self.assertEqual(ledger.names(moment=moment), sorted(rules))
            self.assertEqual(ledger.layout(moment=moment).slots(), slots)
        fresh = ledger_of(record)
        self.assertEqual(ledger, fresh)
        self.assertEqual((ledger.ranking(), ledger.certain(), ledger.idle()), (fresh.ranking(), fresh.certain(), fresh.idle()))
        for reason, number in record.origins.items():
            self.assertEqual(ledger.sources(((0,), (reason,))), [number])

    def act(self, source, tracked):
        """One drawn action; returns its name."""
        action = source.choice(["apply", "apply", "batch", "batch", "empty", "undo", "undo", "redo"])
        if action in ("undo", "redo"):
            return self.back_or_forth(tracked, action)
        if action == "empty":
            tracked.ledger.apply_all(source.choice([[], ()]))
            return action
        faults = source.choice([0, 0, 0.1])
        commands = [drawn_command(source, tracked.record, faults) for k in range(source.randint(1, 6))]
        if action == "apply":
            commands = commands[:1]
        record, failed = tracked.after(commands)
        if failed is None:
            if action == "apply":
                tracked.ledger.apply(commands[0])
            else:
                tracked.ledger.apply_all(commands)
            tracked.step(record)
            return action
        if action == "apply":
            with self.assertRaises((RankError, NotFound)) as caught:
                tracked.ledger.apply(commands[0])
            self.assertEqual(caught.exception.word, failed[1])
        else:
            fields = {"position": failed[0], "reason": failed[1]}
            self.assert_error(BatchFailed, fields, tracked.ledger.apply_all, commands)
        return "failed " + action

    def back_or_forth(self, tracked, action):
        source, target = (tracked.past, tracked.future) if action == "undo" else (tracked.future, tracked.past)
        call = tracked.ledger.undo if action == "undo" else tracked.ledger.redo
        if not source:
            self.assert_error(NothingLeft, {}, call)
            return "nothing to " + action
        call()
        target.append(tracked.record)
        tracked.record = source.pop()
        return action

    def test_drawn_steps(self):
        seen = collections.Counter()
        for seed in range(25):
            source = random.Random(seed)
            tracked = Tracked()
            for k in range(40):
                seen[self.act(source, tracked)] += 1
                self.check(tracked)
        actions = ["apply", "batch", "empty", "undo", "redo"]
        failing = ["failed apply", "failed batch", "nothing to undo", "nothing to redo"]
        self.assertEqual(sorted(seen), sorted(actions + failing))

    def test_clones_are_led_on_independently(self):
        for seed in range(12):
            source = random.Random(300 + seed)
            tracked = Tracked()
            for k in range(25):
                self.act(source, tracked)
            while tracked.past and len(tracked.future) < 3:
                self.back_or_forth(tracked, "undo")
            twin = tracked.clone()
            self.assertEqual(tracked.ledger, twin.ledger)
            self.assertIsNot(tracked.ledger, twin.ledger)
            for k in range(15):
                one = source.choice([tracked, twin])
                self.act(source, one)
                self.check(tracked)
                self.check(twin)
            for one in (tracked, twin):
                while one.future:
                    self.back_or_forth(one, "redo")
                    self.check(tracked)
                    self.check(twin)


class Steps(unittest.TestCase, ErrorChecks):
    def make(self):
        ledger = Ledger(role_and_path(), ["allow", "deny"])
        ledger.add_rule("one", "role=admin", "allow")
        ledger.apply_all([("add", "two", "path=a", "deny"), ("raise", "one"), ("compare", "one", "two"),
                          ("observe", ("admin", "a"), ("allow",))])
        return ledger

    def test_a_batch_is_one_step(self):
        ledger = self.make()
        problem, deeds = ledger.problem(), ledger.deeds()
        self.assertEqual((problem, ledger.history()), ((3, [(2, 0), (2, 1), (2, 1)], [((1, 2), (2,))]), (2, 0)))
        ledger.undo()
        self.assertEqual((ledger.problem(), ledger.deeds(), ledger.history()), ((1, [], []), deeds[:1], (1, 1)))
        ledger.undo()
        self.assertEqual((ledger.problem(), ledger.deeds(), ledger.history()), ((0, [], []), [], (0, 2)))
        self.assert_error(NothingLeft, {}, ledger.undo)
        ledger.redo()
        ledger.redo()
        self.assertEqual((ledger.problem(), ledger.deeds(), ledger.history()), (problem, deeds, (2, 0)))
        self.assert_error(NothingLeft, {}, ledger.redo)

    def test_a_new_step_discards_what_could_be_redone(self):
        for step in (lambda ledger: ledger.apply(("drop", "one")), lambda ledger: ledger.rewrite("one"),
                     lambda ledger: ledger.apply_all([("drop", "one")]),
                     lambda ledger: ledger.observe(("user", "a"), ["none"])):
            ledger = self.make()
            ledger.undo()
            step(ledger)
            self.assertEqual(ledger.history(), (2, 0))
            self.assert_error(NothingLeft, {}, ledger.redo)

    def test_what_is_no_step_keeps_what_can_be_redone(self):
        ledger = self.make()
        ledger.undo()
        ledger.apply_all([])
        ledger.apply_all(())
        failed = {"position": 1, "reason": "unknownrule"}
        self.assert_error(BatchFailed, failed, ledger.apply_all, [("drop", "one"), ("drop", "one")])
        failed = {"position": 2, "reason": "contradiction"}
        self.assert_error(BatchFailed, failed, ledger.apply_all, [
            ("add", "two", "any", "deny"), ("compare", "one", "two"), ("observe", ("admin", "b"), ("deny",))])
        failed = {"position": 0, "reason": "invalidcommand"}
        self.assert_error(BatchFailed, failed, ledger.apply_all, [()])
        self.assertRaises(NotFound, ledger.apply, ("drop", "x"))
        self.assertRaises(NotFound, ledger.rewrite, "x")
        ledger.outcomes(("admin", "a")), ledger.idle(), ledger.clone().undo()
        self.assertEqual((ledger.history(), ledger.present(), ledger.names()), ((1, 1), 1, ["one"]))
        ledger.redo()
        self.assertEqual(ledger, self.make())

    def test_moments_beyond_the_present_one_are_gone_after_undo(self):
        ledger = self.make()
        self.assertEqual(ledger.names(moment=5), ["one", "two"])
        ledger.undo()
        with self.assertRaises(RankError) as caught:
            ledger.names(moment=2)
        self.assertEqual((caught.exception.word, caught.exception.moment), ("invalidmoment", 2))
        self.assertEqual(ledger.sources(((0,), (("pair", 0), ("report", 0)))), [])
        ledger.redo()
        self.assertEqual(ledger.sources(((0, 1), (("pair", 0), ("report", 0)))), [2, 4])

    def test_a_clone_has_its_own_history(self):
        ledger = self.make()
        ledger.undo()
        twin = ledger.clone()
        self.assertEqual((twin, twin.history()), (ledger, (1, 1)))
        twin.redo()
        self.assertEqual((twin.history(), ledger.history()), ((2, 0), (1, 1)))
        twin.apply(("drop", "one"))
        self.assertEqual((twin.present(), ledger.present(), len(twin), len(ledger)), (6, 1, 1, 1))
        ledger.apply(("drop", "one"))
        twin.undo()
        self.assertEqual(twin, self.make())
        self.assertEqual((ledger.history(), ledger.names()), ((2, 0), []))


if __name__ == "__main__":
    unittest.main()
