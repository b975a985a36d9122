"""[14] slots and moves, [15] speakers, as far as a layout keeps them; [2] as far as it concerns them."""

import itertools
import random
import unittest

from hiddenrank.errors import DuplicateName, SameRule, UnknownRule
from hiddenrank.layouts import Layout
from tests.support import ErrorChecks

START = [["b", "a", "c"], [], ["d"], ["f", "e"]]
NAMES = ["a", "b", "c", "d", "e", "f"]


def drawn_slots(source):
    """Some names in some slots, empty ones among them."""
    names = source.sample(NAMES, source.randint(0, 6))
    slots = [[] for k in range(source.randint(1, 5))]
    for name in names:
        source.choice(slots).append(name)
    return slots


def drawn_layouts(seed):
    source = random.Random(seed)
    return [START, [], [[]], [["a"]]] + [drawn_slots(source) for k in range(60)]


def without(slots, name):
    return [[kept for kept in row if kept != name] for row in slots]


class Making(unittest.TestCase, ErrorChecks):
    def test_nothing(self):
        for layout in (Layout(), Layout([]), Layout(()), Layout(slots=[])):
            self.assertEqual((layout.slots(), layout.names(), len(layout)), ([], [], 0))
            self.assertEqual(repr(layout), "Layout(0 slots, 0 rules)")

    def test_slots_names_len_repr(self):
        layout = Layout(START)
        self.assertEqual(layout.slots(), [["b", "a", "c"], [], ["d"], ["f", "e"]])
        self.assertEqual(layout.names(), ["a", "b", "c", "d", "e", "f"])
        self.assertEqual((len(layout), repr(layout)), (4, "Layout(4 slots, 6 rules)"))
        self.assertEqual(repr(Layout([[], [], []])), "Layout(3 slots, 0 rules)")
        self.assertEqual(repr(Layout([["a"]])), "Layout(1 slots, 1 rules)")
        self.assertEqual(repr(Layout([[name] for name in NAMES] + [[]] * 24)), "Layout(30 slots, 6 rules)")

    def test_tuples_for_lists(self):
        layout = Layout((("b", "a"), (), ("c",)))
        self.assertEqual(layout.slots(), [["b", "a"], [], ["c"]])
        self.assertEqual([type(row) for row in layout.slots()], [list] * 3)
        self.assertEqual(layout, Layout([["b", "a"], [], ["c"]]))
        self.assertEqual(layout, Layout([("b", "a"), [], ("c",)]))

    def test_repeated_names(self):
        cases = [
            ("a", [["a", "a"]]), ("a", [["a"], ["a"]]), ("a", [["a"], [], ["b"], ["c", "a"]]),
            ("a", [["b", "b"], ["a"], ["a"]]), ("b", [["c", "b", "a"], ["c", "b"]]),
            ("b", [["c", "c"], ["b", "b"], ["a"]]),
            ("c", [["c", "a"], ["b", "c"]]), ("aa", [["b", "ab", "aa", "aa"], ["ab", "a"]]), ("a", [["a", "a", "a"]]),
            ("b", [["c"], ["b"], ["c"], ["b"], ["c"]]),
        ]
        for name, slots in cases:
            self.assert_error(DuplicateName, {"name": name}, Layout, slots)
            self.assert_error(DuplicateName, {"name": name}, Layout, slots=tuple(tuple(row) for row in slots))

    def test_the_argument_is_copied_and_not_changed(self):
        first = ["b", "a"]
        slots = [first, []]
        layout = Layout(slots)
        self.assertEqual(slots, [["b", "a"], []])
        first.append("c")
        slots.append(["d"])
        slots[1].append("e")
        self.assertEqual((layout.slots(), layout.names(), len(layout)), ([["b", "a"], []], ["a", "b"], 2))

    def test_returned_lists_are_new(self):
        layout = Layout(START)
        layout.slots().append(["x"])
        layout.slots()[0].append("x")
        layout.slots()[1].append("x")
        layout.names().clear()
        layout.speakers(NAMES).clear()
        self.assertEqual((layout.slots(), layout.names()), (START, NAMES))
        self.assertEqual(layout.speakers(NAMES), [(0, "b"), (2, "d"), (3, "f")])
        self.assertEqual(layout, Layout(START))

    def test_equality(self):
        layout = Layout([["a", "b"], [], ["c"]])
        self.assertIs(layout == Layout([["a", "b"], [], ["c"]]), True)
        self.assertIs(layout != Layout([["a", "b"], [], ["c"]]), False)
        self.assertIs(layout == layout.moved("c").dropped("c").added("d"), False)
        self.assertIs(Layout([["b"], ["a"]]).swapped("a", "b") == Layout([["a"], ["b"]]), True)
        others = [
            Layout([["b", "a"], [], ["c"]]), Layout([["a", "b"], ["c"], []]), Layout([["a", "b"], ["c"]]),
            Layout([["a", "b"], [], ["c"], []]), Layout([["a"], ["b"], ["c"]]), Layout([["a", "b"], [], ["d"]]),
            Layout(),
            [["a", "b"], [], ["c"]], (("a", "b"), (), ("c",)), repr(layout), "a", 3, 0, None, True, False, {}, [], (),
        ]
        for other in others:
            with self.subTest(repr(other)):
                self.assertIs(layout == other, False)
                self.assertIs(other == layout, False)
                self.assertIs(layout != other, True)
                self.assertIs(other != layout, True)
        for other in ([], (), 0, None, False, "", {}):
            self.assertIs(Layout() == other, False)
            self.assertIs(Layout() != other, True)


class Moves(unittest.TestCase, ErrorChecks):
    def test_place_of(self):
        for slots in drawn_layouts(31):
            layout = Layout(slots)
            for slot, row in enumerate(slots):
                for index, name in enumerate(row):
                    self.assertEqual(layout.place_of(name), (slot, index))
                    self.assertIs(type(layout.place_of(name=name)), tuple)
            for name in ["x", "", "none", "any"] + [name for name in NAMES if name not in layout.names()]:
                self.assert_error(UnknownRule, {"name": name}, layout.place_of, name)

    def test_added(self):
        for slots in drawn_layouts(32):
            layout = Layout(slots)
            self.assertEqual(layout.added("x").slots(), slots + [["x"]])
            for name in layout.names():
                self.assert_error(DuplicateName, {"name": name}, layout.added, name)
        self.assertEqual(Layout([["a"], []]).added(name="b").slots(), [["a"], [], ["b"]])
        self.assertEqual(Layout().added("a").added("b").slots(), [["a"], ["b"]])

    def test_dropped_and_moved(self):
        for slots in drawn_layouts(33):
            layout = Layout(slots)
            for name in layout.names():
                self.assertEqual(layout.dropped(name).slots(), without(slots, name))
                self.assertEqual(layout.moved(name).slots(), without(slots, name) + [[name]])
            self.assert_error(UnknownRule, {"name": "x"}, layout.dropped, "x")
            self.assert_error(UnknownRule, {"name": "x"}, layout.moved, name="x")
        self.assertEqual(Layout([["a"]]).dropped(name="a").slots(), [[]])
        self.assertEqual(Layout([["a"]]).moved("a").moved(name="a").slots(), [[], [], ["a"]])

    def test_beside(self):
        for slots in drawn_layouts(34):
            layout = Layout(slots)
            for name, other in itertools.permutations(layout.names(), 2):
                for behind in (False, True):
                    expected = without(slots, name)
                    row = next(row for row in expected if other in row)
                    at = row.index(other)
                    row[at:at + 1] = [other, name] if behind else [name, other]
                    self.assertEqual(layout.beside(name, other, behind=behind).slots(), expected)
                self.assertEqual(layout.beside(name, other), layout.beside(name, other, behind=False))

    def test_beside_a_rule_of_the_same_slot(self):
        layout = Layout([["a", "b", "c"]])
        cases = [("a", "c", False, "bac"), ("a", "c", True, "bca"), ("a", "b", False, "abc"), ("a", "b", True, "bac"),
                 ("c", "a", False, "cab"), ("c", "a", True, "acb"), ("c", "b", False, "acb"), ("c", "b", True, "abc"),
                 ("b", "a", False, "bac"), ("b", "a", True, "abc"), ("b", "c", False, "abc"), ("b", "c", True, "acb")]
        for name, other, behind, expected in cases:
            self.assertEqual(layout.beside(name=name, other=other, behind=behind).slots(), [list(expected)])

    def test_behind_is_a_keyword_only(self):
        self.assertRaises(TypeError, Layout([["a", "b"]]).beside, "a", "b", True)
        self.assertEqual(Layout([["a", "b"]]).slots(), [["a", "b"]])

    def test_swapped(self):
        for slots in drawn_layouts(35):
            layout = Layout(slots)
            for name, other in itertools.permutations(layout.names(), 2):
                exchange = {name: other, other: name}
                expected = [[exchange.get(kept, kept) for kept in row] for row in slots]
                self.assertEqual(layout.swapped(name, other).slots(), expected)
                self.assertEqual(layout.swapped(name=other, other=name).slots(), expected)

    def test_errors_of_two_names(self):
        layout = Layout(START)
        for move in (layout.beside, layout.swapped):
            for known in NAMES:
                self.assert_error(UnknownRule, {"name": "x"}, move, "x", known)
                self.assert_error(UnknownRule, {"name": "x"}, move, known, "x")
                self.assert_error(SameRule, {"name": known}, move, known, known)
            self.assert_error(UnknownRule, {"name": "x"}, move, "x", "y")
            self.assert_error(UnknownRule, {"name": "y"}, move, "y", "x")
            self.assert_error(UnknownRule, {"name": "x"}, move, name="x", other="x")
        self.assert_error(SameRule, {"name": "a"}, layout.beside, "a", "a", behind=True)
        self.assert_error(UnknownRule, {"name": "x"}, layout.beside, "x", "x", behind=True)
        self.assert_error(UnknownRule, {"name": "a"}, Layout().swapped, "a", "a")
        self.assertEqual(layout.slots(), START)

    def test_the_old_layout_is_unchanged(self):
        layout = Layout(START)
        moves = [layout.added("x"), layout.dropped("a"), layout.moved("d"), layout.beside("a", "e"),
                 layout.beside("a", "c", behind=True), layout.beside("f", "e", behind=True), layout.swapped("b", "f")]
        for moved in moves:
            self.assertIs(type(moved), Layout)
            moved.slots()[0].append("y")
            self.assertEqual((layout.slots(), layout.names(), len(layout)), (START, NAMES, 4))
            self.assertNotEqual(moved, layout)
        self.assertEqual([len(moved) for moved in moves], [5, 4, 5, 4, 4, 4, 4])


class Speakers(unittest.TestCase):
    def test_every_choice(self):
        for slots in drawn_layouts(36):
            layout = Layout(slots)
            for many in range(7):
                for some in itertools.combinations(NAMES, many):
                    expected = []
                    for slot, row in enumerate(slots):
                        speaking = [name for name in row if name in some]
                        expected += [(slot, name) for name in speaking[:1]]
                    self.assertEqual(layout.speakers(list(some)), expected)
                    self.assertEqual(layout.speakers(some[::-1]), expected)

    def test_unknown_and_repeated_strings(self):
        layout = Layout(START)
        some = ["x", "c", "c", "", "e", "a b", "c", "x", "none"]
        self.assertEqual(layout.speakers(some), [(0, "c"), (3, "e")])
        self.assertEqual(some, ["x", "c", "c", "", "e", "a b", "c", "x", "none"])
        self.assertEqual(layout.speakers(some=["x", ""]), [])
        self.assertEqual(layout.speakers([]), [])
        self.assertEqual(Layout().speakers(NAMES), [])
        self.assertEqual(layout.speakers(["ab", "abc", "bac"]), [])

    def test_the_order_of_the_list_does_not_matter(self):
        layout = Layout([["a", "b"], ["c"]])
        self.assertEqual(layout.speakers(["c", "b", "a"]), [(0, "a"), (1, "c")])
        self.assertEqual([type(pair) for pair in layout.speakers(("b", "c"))], [tuple, tuple])


if __name__ == "__main__":
    unittest.main()
