"""The error classes of the interface: base classes, fields, words."""

import inspect
import unittest

from hiddenrank import errors

RANK_ERRORS = {
    "InvalidName": ["name"],
    "InvalidValue": ["value"],
    "DuplicateName": ["name"],
    "LimitReached": ["limit"],
    "InvalidRequest": ["position"],
    "InvalidNumber": ["number"],
    "InvalidCondition": ["position"],
    "InvalidPair": ["place"],
    "InvalidReport": ["place"],
    "InvalidSlot": ["slot"],
    "NotADeadlock": [],
    "InvalidOutcomes": [],
    "NothingMatches": ["number"],
    "SameRule": ["name"],
    "KnownOrder": ["name", "other"],
    "Contradiction": ["deadlock"],
    "InvalidMoment": ["moment"],
    "InvalidCommand": [],
    "BatchFailed": ["position", "reason"],
    "InvalidText": [],
    "InvalidFile": ["line"],
}
NOT_FOUND = {
    "UnknownField": ["name"],
    "UnknownValue": ["value"],
    "UnknownEffect": ["name"],
    "UnknownRule": ["name"],
    "NothingLeft": [],
}


class ErrorClasses(unittest.TestCase):
    def test_base_classes(self):
        self.assertEqual(errors.RankError.__bases__, (ValueError,))
        self.assertEqual(errors.NotFound.__bases__, (LookupError,))
        for name in RANK_ERRORS:
            self.assertEqual(getattr(errors, name).__bases__, (errors.RankError,), name)
        for name in NOT_FOUND:
            self.assertEqual(getattr(errors, name).__bases__, (errors.NotFound,), name)

    def test_there_are_no_other_classes(self):
        found = {name for name, thing in vars(errors).items() if inspect.isclass(thing)}
        self.assertEqual(found, {"RankError", "NotFound", *RANK_ERRORS, *NOT_FOUND})
        for name in found:
            self.assertEqual(getattr(errors, name).__module__, "hiddenrank.errors")

    def test_fields_and_words(self):
        for name, fields in {**RANK_ERRORS, **NOT_FOUND}.items():
            with self.subTest(name):
                values = [f"value{place}" for place in range(len(fields))]
                expected = {**dict(zip(fields, values)), "word": name.lower()}
                kind = getattr(errors, name)
                self.assertEqual(vars(kind(*values)), expected)
                self.assertEqual(vars(kind(**dict(zip(fields, values)))), expected)
                self.assertRaises(TypeError, kind, *values, "more")
                if fields:
                    self.assertRaises(TypeError, kind, *values[1:])

    def test_fields_keep_their_kinds(self):
        deadlock = ((0, 1), (("pair", 0), ("report", 1)))
        self.assertEqual(errors.Contradiction(deadlock).deadlock, deadlock)
        self.assertEqual(errors.InvalidRequest(-1).position, -1)
        failed = errors.BatchFailed(2, "unknownrule")
        self.assertEqual((failed.position, failed.reason), (2, "unknownrule"))

    def test_they_are_caught_by_their_base_classes(self):
        for name, fields in RANK_ERRORS.items():
            with self.assertRaises(ValueError):
                raise getattr(errors, name)(*fields)
        for name, fields in NOT_FOUND.items():
            with self.assertRaises(LookupError):
                raise getattr(errors, name)(*fields)


if __name__ == "__main__":
    unittest.main()
