"""[9] what comes first in some agreeing order, and how two slots stand in all agreeing orders."""

import itertools
import time
import unittest

from hiddenrank.deadlocks import compare_slots, possible_first
from hiddenrank.errors import InvalidSlot
from tests import problems
from tests.support import ErrorChecks


def own_first(found, slots):
    """The slots that come first of some in a list of orders."""
    return sorted({next(slot for slot in order if slot in slots) for order in found})


def own_comparison(found, one, other):
    """How one slot stands to another one in a list of orders."""
    answers = {order.index(one) < order.index(other) for order in found}
    if len(answers) != 1:
        return "open" if answers else "none"
    return "stronger" if True in answers else "weaker"


class PossibleFirst(unittest.TestCase, ErrorChecks):
    def test_small_problems(self):
        for problem in problems.SMALL + problems.drawn_problems(21, 250):
            found = problems.agreeing_orders(*problem)
            for many in range(1, problem[0] + 1):
                for slots in itertools.combinations(range(problem[0]), many):
                    answer = possible_first(*problem, list(slots))
                    self.assertEqual(answer, own_first(found, slots), (problem, slots))

    def test_no_agreeing_order(self):
        # The free slots 2 and 3 come first in no order, because there is none.
        self.assertEqual(possible_first(4, [(0, 1), (1, 0)], [], [2, 3]), [])
        self.assertEqual(possible_first(4, [(0, 1), (1, 0)], [], [2]), [])

    def test_wrong_slots(self):
        cases = [
            (-1, []), (-1, [-1]), (-2, [-2]), (3, [3]), (10 ** 19, [10 ** 19]), (-5, [-5, 0]), (3, [0, 1, 2, 3]),
            (0, [0, 0]), (0, [1, 0]), (1, [0, 2, 1]), (2, [2, 2, 7]), (1, [1, 1]), (-1, [0, -1]), (4, [1, 4, 0]),
            (0, [1, 0, 9]), (7, [0, 7, 7]), (-3, [2, -3, 9]),
        ]
        for slot, slots in cases:
            for pairs in ([], [(0, 1), (1, 0)]):
                self.assert_error(InvalidSlot, {"slot": slot}, possible_first, 3, pairs, [], slots)
                self.assert_error(InvalidSlot, {"slot": slot}, possible_first, 3, pairs, [], tuple(slots))
        self.assert_error(InvalidSlot, {"slot": -1}, possible_first, 0, [], [], [])
        self.assert_error(InvalidSlot, {"slot": 0}, possible_first, 0, [], [], [0])
        self.assert_error(InvalidSlot, {"slot": 30}, possible_first, 30, [], [], [29, 30])

    def test_lists(self):
        slots = [0, 1, 2]
        answer = possible_first(size=3, pairs=[(0, 1)], reports=[], slots=slots)
        answer.append(7)
        self.assertEqual((slots, possible_first(3, [(0, 1)], [], (0, 1, 2))), ([0, 1, 2], [0, 2]))
        whole = possible_first(3, [], [], slots)
        self.assertEqual(whole, slots)
        whole.clear()
        self.assertEqual(slots, [0, 1, 2])

    def test_thirty_slots_in_a_short_time(self):
        start = time.process_time()
        problem, order = problems.full_problem(), problems.hidden_order()
        self.assertEqual(possible_first(*problem, list(range(30))), [order[0]])
        for place in range(0, 30, 5):
            self.assertEqual(possible_first(*problem, sorted(order[place:])), [order[place]])
        self.assertEqual(possible_first(*problems.full_stuck_problem(), list(range(30))), [])
        self.assertEqual(possible_first(*problems.full_open_problem(), list(range(30))), list(range(10)))
        self.assertEqual(possible_first(*problems.full_open_problem(), list(range(10, 30))), list(range(10, 20)))
        self.assertLess(time.process_time() - start, 10)


class CompareSlots(unittest.TestCase, ErrorChecks):
    def test_small_problems(self):
        answers = set()
        for problem in problems.SMALL + problems.drawn_problems(22, 400):
            found = problems.agreeing_orders(*problem)
            for one, other in itertools.permutations(range(problem[0]), 2):
                answer = compare_slots(*problem, one, other)
                answers.add(answer)
                self.assertEqual(answer, own_comparison(found, one, other), (problem, one, other))
        self.assertEqual(answers, {"stronger", "weaker", "open", "none"})

    def test_known_by_reports_only(self):
        reports = [((0, 1, 2), (0, 1)), ((0, 1), (0,))]
        self.assertEqual(compare_slots(3, [], reports, 0, 1), "stronger")
        self.assertEqual(compare_slots(3, [], reports, 1, 0), "weaker")
        self.assertEqual(compare_slots(3, [], reports, 2, 1), "open")
        self.assertEqual(compare_slots(3, [], reports, 2, 0), "weaker")

    def test_wrong_slots(self):
        for pairs in ([], [(0, 1), (1, 0)]):
            for wrong in (-1, 3, 4, 30, 10 ** 19, -(10 ** 19)):
                for other in (0, 1, 2, -1, 3, wrong):
                    self.assert_error(InvalidSlot, {"slot": wrong}, compare_slots, 3, pairs, [], wrong, other)
                for one in (0, 1, 2):
                    self.assert_error(InvalidSlot, {"slot": wrong}, compare_slots, 3, pairs, [], one, wrong)
            for slot in (0, 1, 2):
                self.assert_error(InvalidSlot, {"slot": slot}, compare_slots, 3, pairs, [], slot, slot)
        self.assert_error(InvalidSlot, {"slot": 4}, compare_slots, size=3, pairs=[], reports=[], one=4, other=5)
        self.assert_error(InvalidSlot, {"slot": 0}, compare_slots, 0, [], [], 0, 0)

    def test_names_of_the_parameters(self):
        self.assertEqual(compare_slots(size=2, pairs=[(0, 1)], reports=[], one=0, other=1), "stronger")
        self.assertEqual(compare_slots(other=0, one=1, size=2, pairs=[(0, 1)], reports=[]), "weaker")

    def test_thirty_slots_in_a_short_time(self):
        start = time.process_time()
        problem, order = problems.full_problem(), problems.hidden_order()
        for place in range(29):
            self.assertEqual(compare_slots(*problem, order[place], order[place + 1]), "stronger")
            self.assertEqual(compare_slots(*problem, order[29], order[place]), "weaker")
        self.assertEqual(compare_slots(*problems.full_open_problem(), 3, 7), "open")
        self.assertEqual(compare_slots(*problems.full_stuck_problem(), 3, 7), "none")
        self.assertLess(time.process_time() - start, 10)


if __name__ == "__main__":
    unittest.main()
