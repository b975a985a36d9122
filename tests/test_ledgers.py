"""[13] ledgers, [19] what is kept of a deed, equality, len and repr; [2] as far as it concerns ledgers."""

import unittest

from hiddenrank import ledgers
from hiddenrank.deadlocks import is_deadlock
from hiddenrank.errors import (Contradiction, DuplicateName, InvalidCondition, InvalidMoment, InvalidName,
                               InvalidRequest, KnownOrder, LimitReached, NothingLeft, NothingMatches, SameRule,
                               UnknownEffect, UnknownRule, UnknownValue)
from hiddenrank.ledgers import Ledger
from hiddenrank.schemas import Schema
from tests.support import ErrorChecks, role_and_path


def two_rules():
    """The ledger of the document's examples."""
    ledger = Ledger(role_and_path(), ["allow", "deny"])
    ledger.add_rule("one", "role=admin", "allow")
    ledger.add_rule("two", "path=a", "deny")
    return ledger


class Making(unittest.TestCase, ErrorChecks):
    def test_constants(self):
        self.assertEqual((ledgers.MAX_EFFECTS, ledgers.MAX_DEEDS), (6, 120))

    def test_numbers_of_effects(self):
        for many in range(1, 7):
            effects = ["allow", "deny", "ask", "a", "any", "abcdefgh"][:many]
            self.assertEqual(Ledger(role_and_path(), effects).effects(), effects)
            self.assertEqual(Ledger(schema=role_and_path(), effects=tuple(effects)).effects(), effects)
        for effects in ([], ["a", "b", "c", "d", "e", "f", "g"], (), ["none"] * 7, ["A"] * 8, ["a"] * 600):
            self.assert_error(LimitReached, {"limit": 6}, Ledger, role_and_path(), effects)

    def test_effects_that_are_refused(self):
        for effect in ("none", "", "A", "a1", "abcdefghi", "a b", "a-b", "a\n", " ", "1"):
            self.assert_error(InvalidName, {"name": effect}, Ledger, role_and_path(), [effect])
            self.assert_error(InvalidName, {"name": effect}, Ledger, role_and_path(), ["a", "b", effect])
            self.assert_error(InvalidName, {"name": effect}, Ledger, role_and_path(), ["a", effect, effect, "a"])
        self.assert_error(DuplicateName, {"name": "a"}, Ledger, role_and_path(), ["a", "a"])
        self.assert_error(DuplicateName, {"name": "b"}, Ledger, role_and_path(), ["a", "b", "c", "b", "a"])

    def test_two_and_three_faults(self):
        self.assert_error(DuplicateName, {"name": "a"}, Ledger, role_and_path(), ["b", "a", "a", "none"])
        self.assert_error(InvalidName, {"name": "none"}, Ledger, role_and_path(), ["b", "a", "none", "a"])
        self.assert_error(InvalidName, {"name": "B"}, Ledger, role_and_path(), ["b", "B", "b", "none"])
        self.assert_error(InvalidName, {"name": "none"}, Ledger, role_and_path(), ["none", "none", "B"])
        self.assert_error(LimitReached, {"limit": 6}, Ledger, role_and_path(), ["none", "B", "a", "a", "b", "b", "c"])

    def test_an_empty_ledger(self):
        ledger = Ledger(role_and_path(), ["allow", "deny"])
        self.assertEqual((len(ledger), repr(ledger), ledger.present()), (0, "Ledger(0 rules, 0 deeds)", 0))
        self.assertEqual((ledger.names(), ledger.deeds(), ledger.history()), ([], [], (0, 0)))
        self.assertEqual((ledger.problem(), ledger.layout().slots()), ((0, [], []), []))
        self.assertEqual((ledger.ranking(), ledger.idle(), ledger.certain()), ([], [], [0, 1, 2, 3, 4, 5]))
        self.assertEqual((ledger.first_change(0, 0), ledger.sources(((0,), (("pair", 0),)))), (None, []))
        for number in range(6):
            request = role_and_path().request_of(number)
            for moment in (None, 0):
                self.assertEqual(ledger.outcomes(request, moment=moment), ["none"])
                self.assertEqual(ledger.deciders(request, moment=moment), [])
                self.assertEqual(ledger.speakers(request, moment=moment), [])
                self.assertEqual(ledger.explain(request, "none", moment=moment), ("possible", []))
                self.assertEqual(ledger.explain(request, "deny", moment=moment), ("nothing", number))
        self.assert_error(UnknownRule, {"name": "one"}, ledger.rule, "one")
        self.assert_error(UnknownRule, {"name": "one"}, ledger.stronger, "one", "one")
        self.assert_error(UnknownRule, {"name": "one"}, ledger.rewrite, "one")
        self.assert_error(NothingMatches, {"number": 0}, ledger.observe, ("admin", "a"), ["deny"])
        self.assert_error(NothingLeft, {}, ledger.undo)
        self.assert_error(NothingLeft, {}, ledger.redo)
        self.assert_error(InvalidMoment, {"moment": 1}, ledger.names, moment=1)

    def test_rules_with_any_name(self):
        ledger = Ledger(Schema([("an", ["any", "none"])]), ["any"])
        for name in ("any", "none", "add", "abcdefgh"):
            ledger.add_rule(name, "an=none", "any")
        self.assertEqual(ledger.names(), ["abcdefgh", "add", "any", "none"])
        self.assertEqual(ledger.outcomes(("none",)), ["any"])
        self.assertEqual(ledger.outcomes(("any",)), ["none"])


class Copies(unittest.TestCase):
    def test_arguments_are_copied_and_not_changed(self):
        effects, outcomes, batch = ["allow", "deny"], ["none", "deny", "deny"], [("raise", "one"), ("drop", "two")]
        ledger = Ledger(role_and_path(), effects)
        ledger.add_rule("one", "role=admin", "allow")
        ledger.add_rule("two", "path=a", "deny")
        ledger.observe(("admin", "a"), outcomes)
        ledger.apply_all(batch)
        self.assertEqual((effects, outcomes), (["allow", "deny"], ["none", "deny", "deny"]))
        self.assertEqual(batch, [("raise", "one"), ("drop", "two")])
        effects.clear(), outcomes.clear(), batch.clear()
        self.assertEqual(ledger.effects(), ["allow", "deny"])
        self.assertEqual(ledger.deeds()[2:], [("observe", ("admin", "a"), ("deny", "none")), ("raise", "one"),
                                              ("drop", "two")])

    def test_every_returned_list_is_new(self):
        ledger = two_rules()
        ledger.apply(("lower", "one"))
        ledger.observe(("admin", "a"), ["deny"])
        queries = [
            ledger.effects, ledger.deeds, ledger.names, ledger.certain, ledger.idle, ledger.ranking,
            lambda: ledger.problem()[1], lambda: ledger.problem()[2], lambda: ledger.layout().slots(),
            lambda: ledger.layout().slots()[1], lambda: ledger.speakers(("admin", "a")),
            lambda: ledger.outcomes(("admin", "a")), lambda: ledger.outcomes(("user", "b")),
            lambda: ledger.deciders(("admin", "a")), lambda: ledger.explain(("admin", "a"), "deny")[1],
            lambda: ledger.sources(((0,), (("report", 0),))), lambda: ledger.schema().fields(),
            lambda: ledger.names(moment=1), lambda: ledger.ranking(moment=1),
        ]
        for query in queries:
            first = query()
            self.assertIs(type(first), list)
            expected = list(first)
            first.append("x")
            first.reverse()
            self.assertEqual(query(), expected)

    def test_moment_is_a_keyword_only(self):
        ledger = two_rules()
        request = ("admin", "a")
        for call, arguments in [
                (ledger.names, ()), (ledger.rule, ("one",)), (ledger.layout, ()), (ledger.speakers, (request,)),
                (ledger.outcomes, (request,)), (ledger.deciders, (request,)), (ledger.explain, (request, "deny")),
                (ledger.stronger, ("one", "two")), (ledger.ranking, ()), (ledger.certain, ()), (ledger.idle, ())]:
            self.assertRaises(TypeError, call, *arguments, 2)
            # Layouts compare by their slots, all others are plain values.
            self.assertEqual(call(*arguments, moment=2), call(*arguments))
            self.assertEqual(call(*arguments, moment=None), call(*arguments))
        self.assertRaises(TypeError, ledger.rewrite, "one", "any", "deny")
        self.assertEqual(ledger.present(), 2)


class Kept(unittest.TestCase, ErrorChecks):
    def test_conditions_are_kept_in_canonical_form(self):
        cases = [("any", "any"), ("  any ", "any"), ("((any))", "any"), ("(path=a)|path=b", "path=a | path=b"),
                 ("(role=admin&path=a)|!(any)", "role=admin & path=a | !any"),
                 ("role = admin & ( path = a | path = b )", "role=admin & (path=a | path=b)"),
                 ("! ( path=a&any )", "!(path=a & any)"), ("(any|any)|any", "(any | any) | any")]
        for text, canonical in cases:
            ledger = two_rules()
            ledger.add_rule("three", text, "deny")
            ledger.apply(("rewrite", "one", text, "deny"))
            ledger.rewrite("two", condition=text)
            self.assertEqual(ledger.deeds()[2:], [("add", "three", canonical, "deny"),
                                                  ("rewrite", "one", canonical, "deny"),
                                                  ("rewrite", "two", canonical, "deny")])
            for name in ("one", "two", "three"):
                self.assertEqual(ledger.rule(name), (canonical, "deny"))

    def test_outcomes_are_kept_in_the_order_of_the_effects(self):
        cases = [(("deny",), ("deny",)), (("deny", "deny"), ("deny",)), (("allow", "deny"), ("deny", "allow")),
                 (("none", "allow", "none", "deny", "allow"), ("deny", "allow", "none")),
                 (("none", "deny"), ("deny", "none"))]
        for outcomes, kept in cases:
            for request in (("admin", "a"), ("user", "b")):
                ledger = Ledger(role_and_path(), ["deny", "allow"])
                ledger.add_rule("one", "role=admin", "deny")
                if request == ("user", "b") and "none" not in outcomes:
                    self.assert_error(NothingMatches, {"number": 4}, ledger.observe, request, outcomes)
                    continue
                ledger.apply(("observe", request, outcomes))
                ledger.observe(request, list(outcomes))
                ledger.observe(request=request, outcomes=outcomes)
                self.assertEqual(ledger.deeds()[1:], [("observe", request, kept)] * 3)
                self.assertEqual(ledger.problem()[2], [((0,), (0,))] * (3 if request == ("admin", "a") else 0))

    def test_other_commands_are_kept_as_they_are(self):
        ledger = two_rules()
        commands = [("raise", "one"), ("lower", "one"), ("above", "one", "two"), ("below", "one", "two"),
                    ("swap", "one", "two"), ("compare", "one", "two"), ("drop", "one")]
        for command in commands:
            self.assertIsNone(ledger.apply(command))
        self.assertEqual(ledger.deeds()[2:], commands)

    def test_calls_return_none(self):
        ledger = two_rules()
        self.assertIsNone(ledger.add_rule(name="three", condition="any", effect="deny"))
        self.assertIsNone(ledger.observe(("admin", "a"), ("deny",)))
        self.assertIsNone(ledger.compare(name="two", other="one"))
        self.assertIsNone(ledger.rewrite("one"))
        self.assertIsNone(ledger.apply_all(commands=(("drop", "one"),)))
        self.assertIsNone(ledger.apply_all([]))
        self.assertIsNone(ledger.undo())
        self.assertIsNone(ledger.redo())

    def test_rewrite(self):
        ledger = two_rules()
        ledger.rewrite("one", condition="path=c", effect="deny")
        self.assertEqual(ledger.rule("one"), ("path=c", "deny"))
        ledger.rewrite("one", condition="path=b")
        self.assertEqual(ledger.rule("one"), ("path=b", "deny"))
        ledger.rewrite("one", effect="allow")
        self.assertEqual(ledger.rule("one"), ("path=b", "allow"))
        ledger.rewrite(name="one")
        ledger.rewrite("one", condition=None, effect=None)
        self.assertEqual((ledger.rule("one"), ledger.rule("two")), (("path=b", "allow"), ("path=a", "deny")))
        self.assertEqual(ledger.deeds()[2:], [
            ("rewrite", "one", "path=c", "deny"), ("rewrite", "one", "path=b", "deny"),
            ("rewrite", "one", "path=b", "allow"), ("rewrite", "one", "path=b", "allow"),
            ("rewrite", "one", "path=b", "allow")])
        self.assertEqual((ledger.layout().slots(), ledger.history()), ([["one"], ["two"]], (7, 0)))
        self.assertEqual(ledger.outcomes(("user", "b")), ["allow"])
        self.assertEqual(ledger.outcomes(("admin", "c")), ["none"])

    def test_rewrite_that_is_refused(self):
        ledger = two_rules()
        self.assert_error(UnknownRule, {"name": "x"}, ledger.rewrite, "x", condition="role=", effect="x")
        self.assert_error(InvalidCondition, {"position": 0}, ledger.rewrite, "one", condition="", effect="x")
        self.assert_error(InvalidCondition, {"position": 5}, ledger.rewrite, "one", condition="role=", effect="x")
        self.assert_error(UnknownValue, {"value": "x"}, ledger.rewrite, "one", condition="role=x", effect="x")
        self.assert_error(UnknownEffect, {"name": "none"}, ledger.rewrite, "one", condition="any", effect="none")
        self.assert_error(UnknownEffect, {"name": ""}, ledger.rewrite, "one", effect="")
        self.assertEqual((ledger.deeds(), ledger.history()), (two_rules().deeds(), (2, 0)))


class Equality(unittest.TestCase):
    def test_equal_ledgers(self):
        ledger = two_rules()
        batch = Ledger(role_and_path(), ["allow", "deny"])
        batch.apply_all([("add", "one", "(role=admin)", "allow"), ("add", "two", " path = a", "deny")])
        other = two_rules()
        other.compare("one", "two")
        other.undo()
        for equal in (ledger, batch, other, ledger.clone()):
            self.assertIs(ledger == equal, True)
            self.assertIs(ledger != equal, False)
            self.assertIs(equal == ledger, True)

    def test_unequal_ledgers(self):
        ledger = two_rules()
        more = two_rules()
        more.observe(("user", "b"), ["none"])
        schema = Schema([("role", ["user", "admin"]), ("path", ["a", "b", "c"])])
        others = [more, Ledger(role_and_path(), ["allow", "deny"])]
        for frame, effects, commands in [
                (schema, ["allow", "deny"], ledger.deeds()), (role_and_path(), ["deny", "allow"], ledger.deeds()),
                (role_and_path(), ["allow", "deny", "x"], ledger.deeds()),
                (role_and_path(), ["allow", "deny"], ledger.deeds()[::-1]),
                (role_and_path(), ["allow", "deny"], ledger.deeds()[:1])]:
            others.append(Ledger(frame, effects))
            others[-1].apply_all(commands)
        others += [None, True, False, 0, 2, "", repr(ledger), [], (), {}, ledger.deeds(), ledger.schema(), ledger.layout()]
        for other in others:
            with self.subTest(repr(other)):
                self.assertIs(ledger == other, False)
                self.assertIs(other == ledger, False)
                self.assertIs(ledger != other, True)
        empty = Ledger(role_and_path(), ["allow"])
        for other in ([], (), 0, None, False, "", {}):
            self.assertIs(empty == other, False)

    def test_equal_evidence_by_other_deeds_is_not_equal(self):
        one, other = two_rules(), two_rules()
        one.compare("two", "one")
        other.observe(("admin", "a"), ["deny"])
        self.assertNotEqual(one, other)
        one.undo()
        one.observe(("admin", "a"), ["deny", "deny"])
        self.assertEqual(one, other)

    def test_len_and_repr(self):
        ledger = two_rules()
        self.assertEqual((len(ledger), repr(ledger)), (2, "Ledger(2 rules, 2 deeds)"))
        ledger.apply(("drop", "one"))
        self.assertEqual((len(ledger), repr(ledger)), (1, "Ledger(1 rules, 3 deeds)"))
        ledger.apply(("raise", "two"))
        ledger.observe(("user", "b"), ["none"])
        self.assertEqual((len(ledger), repr(ledger)), (1, "Ledger(1 rules, 5 deeds)"))
        ledger.apply(("drop", "two"))
        self.assertEqual((len(ledger), repr(ledger)), (0, "Ledger(0 rules, 6 deeds)"))


class Evidence(unittest.TestCase, ErrorChecks):
    def test_observations_without_a_matching_rule(self):
        ledger = two_rules()
        for outcomes in (["none"], ["none", "allow"], ["deny", "none", "none"]):
            ledger.observe(("user", "b"), outcomes)
        self.assertEqual((ledger.problem(), ledger.present()), ((2, [], []), 5))
        for outcomes in (["allow"], ["deny", "allow"]):
            self.assert_error(NothingMatches, {"number": 4}, ledger.observe, ("user", "b"), outcomes)
        self.assertEqual(ledger.present(), 5)

    def test_observations_of_none_where_rules_match(self):
        ledger = two_rules()
        with self.assertRaises(Contradiction) as caught:
            ledger.observe(("admin", "a"), ["none"])
        self.assertTrue(is_deadlock(2, [], [((0, 1), ())], caught.exception.deadlock))
        ledger.observe(("admin", "a"), ["none", "deny"])
        self.assertEqual(ledger.problem(), (2, [], [((0, 1), (1,))]))

    def test_comparisons_within_a_slot_and_over_two(self):
        ledger = two_rules()
        ledger.apply(("below", "one", "two"))
        self.assertEqual(ledger.layout().slots(), [[], ["two", "one"]])
        ledger.compare("two", "one")
        self.assertEqual((ledger.problem(), ledger.present()), ((2, [], []), 4))
        self.assert_error(KnownOrder, {"name": "one", "other": "two"}, ledger.compare, "one", "two")
        self.assert_error(SameRule, {"name": "one"}, ledger.compare, "one", "one")
        ledger.apply(("raise", "one"))
        ledger.compare("one", "two")
        ledger.compare("one", "two")
        self.assertEqual(ledger.problem(), (3, [(2, 0), (2, 1), (2, 1), (2, 1)], []))
        with self.assertRaises(Contradiction) as caught:
            ledger.compare("two", "one")
        pairs = ledger.problem()[1] + [(1, 2)]
        self.assertTrue(is_deadlock(3, pairs, [], caught.exception.deadlock))
        self.assertEqual(ledger.problem(), (3, [(2, 0), (2, 1), (2, 1), (2, 1)], []))

    def test_sources(self):
        ledger = two_rules()
        ledger.observe(("user", "b"), ["none"])
        ledger.apply(("raise", "one"))
        ledger.observe(("admin", "a"), ["allow"])
        ledger.compare("one", "two")
        self.assertEqual(ledger.problem(), (3, [(2, 0), (2, 1), (2, 1)], [((1, 2), (2,))]))
        cases = [((), []), ((("pair", 0),), [3]), ((("pair", 1), ("pair", 0)), [3]), ((("pair", 2),), [5]),
                 ((("report", 0),), [4]), ((("pair", 2), ("report", 0), ("pair", 0), ("pair", 2)), [3, 4, 5]),
                 ((("pair", 3), ("pair", -1), ("report", 1), ("report", -1), ("other", 0), ("", 0)), []),
                 ((("pair", -3), ("report", 0), ("pairs", 2), ("pair", 10 ** 19)), [4])]
        for reasons, expected in cases:
            for slots in ((), tuple(range(len(reasons))), (5, -1)):
                self.assertEqual(ledger.sources((slots, reasons)), expected)
                self.assertEqual(ledger.sources(deadlock=(slots, reasons)), expected)

    def test_errors_of_queries_in_their_order(self):
        ledger = two_rules()
        for moment in (-1, 3, 120, 121, -10 ** 19):
            for call, arguments in [
                    (ledger.names, ()), (ledger.rule, ("x",)), (ledger.layout, ()), (ledger.speakers, (("x",),)),
                    (ledger.outcomes, ((),)), (ledger.deciders, (("admin", "x"),)), (ledger.explain, ((), "x")),
                    (ledger.stronger, ("x", "x")), (ledger.ranking, ()), (ledger.certain, ()), (ledger.idle, ())]:
                self.assert_error(InvalidMoment, {"moment": moment}, call, *arguments, moment=moment)
            self.assert_error(InvalidMoment, {"moment": moment}, ledger.first_change, moment, 0)
            self.assert_error(InvalidMoment, {"moment": moment}, ledger.first_change, one=0, other=moment)
            self.assert_error(InvalidMoment, {"moment": moment}, ledger.first_change, moment, 7)
        for call in (ledger.speakers, ledger.outcomes, ledger.deciders):
            self.assert_error(InvalidRequest, {"position": -1}, call, ())
            self.assert_error(InvalidRequest, {"position": -1}, call, request=("admin",), moment=0)
            self.assert_error(InvalidRequest, {"position": 1}, call, ("admin", "x"))
            self.assert_error(InvalidRequest, {"position": 0}, call, ("a", "admin"))
        self.assert_error(InvalidRequest, {"position": 0}, ledger.explain, ("x", "x"), "x")
        for outcome in ("x", "", "any", "None"):
            self.assert_error(UnknownEffect, {"name": outcome}, ledger.explain, ("user", "b"), outcome)
            self.assert_error(UnknownEffect, {"name": outcome}, ledger.explain, ("admin", "a"), outcome, moment=0)
        self.assert_error(UnknownRule, {"name": "two"}, ledger.rule, "two", moment=1)
        self.assert_error(UnknownRule, {"name": "two"}, ledger.stronger, "one", "two", moment=1)
        self.assert_error(UnknownRule, {"name": "x"}, ledger.stronger, "x", "y")
        self.assert_error(UnknownRule, {"name": "y"}, ledger.stronger, "one", "y")
        self.assert_error(SameRule, {"name": "one"}, ledger.stronger, name="one", other="one")


if __name__ == "__main__":
    unittest.main()
