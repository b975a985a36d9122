"""[8] problems; [9] orders that agree; [10] the deadlocks that are found; [11] layers and the largest deadlock."""

import copy
import itertools
import time
import unittest

from hiddenrank import orders
from hiddenrank.deadlocks import compare_slots, is_deadlock, is_irreducible, possible_first, shrink
from hiddenrank.errors import InvalidPair, InvalidReport, LimitReached
from hiddenrank.orders import agrees, check_problem, find_order, largest_deadlock, layers
from tests import problems
from tests.support import ErrorChecks

# Every function of the two modules, with further arguments that are wrong themselves where an error is documented.
NOTHING = ((), ())
CALLS = [
    (check_problem, ()), (agrees, ([],)), (agrees, ([5, 5],)), (find_order, ()), (layers, ()), (largest_deadlock, ()),
    (is_deadlock, (NOTHING,)), (is_irreducible, (NOTHING,)), (shrink, (NOTHING,)),
    (possible_first, ([],)), (possible_first, ([9, 9],)), (compare_slots, (-1, -1)), (compare_slots, (0, 0)),
]


class Problems(unittest.TestCase, ErrorChecks):
    def assert_refused(self, kind, fields, *problem):
        for function, more in CALLS:
            with self.subTest(function.__name__, problem=problem):
                self.assert_error(kind, fields, function, *problem, *more)

    def test_constant(self):
        self.assertEqual(orders.MAX_SLOTS, 30)

    def test_sizes(self):
        for size in (-1, -30, 31, 32, 10 ** 19, -(10 ** 19)):
            self.assert_refused(LimitReached, {"limit": 30}, size, [], [])
        for size in range(31):
            self.assertIsNone(check_problem(size, [], []))
            self.assertEqual(find_order(size, [], [])[0], "order")

    def test_good_problems(self):
        for problem in problems.SMALL + problems.drawn_problems(1, 50):
            self.assertIsNone(check_problem(*problem))
        for problem in (problems.full_problem(), problems.full_stuck_problem(), problems.full_ring_problem()):
            self.assertIsNone(check_problem(*problem))
        self.assertIsNone(check_problem(30, [(0, 29), (29, 0)], [((0, 29), (29,)), ((29,), ())]))

    def test_every_pair_of_small_integers(self):
        for size in range(4):
            for pair in itertools.product(range(-2, 6), repeat=2):
                if pair[0] != pair[1] and min(pair) >= 0 and max(pair) < size:
                    self.assertIsNone(check_problem(size, [pair], []))
                else:
                    self.assert_error(InvalidPair, {"place": 0}, check_problem, size, [pair], [])

    def test_wrong_pairs(self):
        for wrong in ((0, 0), (2, 2), (-1, 0), (0, -1), (0, 3), (3, 0), (-3, -2), (10 ** 19, 0), (1, -(10 ** 19))):
            self.assert_refused(InvalidPair, {"place": 0}, 3, [wrong], [])
            self.assert_refused(InvalidPair, {"place": 2}, 3, [(0, 1), (1, 0), wrong, wrong], [])
        self.assert_refused(InvalidPair, {"place": 0}, 30, [(0, 30)], [])
        self.assert_refused(InvalidPair, {"place": 599}, 30, [(0, 29)] * 599 + [(7, 7)], [])

    def test_wrong_reports(self):
        cases = [
            ((), ()), ((), (0,)),
            ((1, 0), ()), ((0, 2, 1), (0,)), ((2, 1, 0), (0, 1, 2)),
            ((0, 0), ()), ((0, 1, 1), (0,)), ((2, 2), (2,)),
            ((-1,), ()), ((-1, 0), (0,)), ((3,), ()), ((0, 3), (0,)), ((0, 1, 2, 10 ** 19), ()),
            ((0, 1), (2,)), ((0, 1), (0, 2)), ((1,), (0,)), ((0, 1), (-1,)), ((0, 1), (3,)), ((0, 2), (0, 1, 2)),
            ((0, 1), (1, 0)), ((0, 1, 2), (0, 2, 1)), ((0, 1), (0, 0)), ((0, 1), (1, 1)), ((2,), (2, 2)),
        ]
        for wrong in cases:
            self.assert_refused(InvalidReport, {"place": 0}, 3, [], [wrong])
            self.assert_refused(InvalidReport, {"place": 1}, 3, [(0, 1)], [((0, 1, 2), ()), wrong, wrong])
        self.assert_refused(InvalidReport, {"place": 99}, 30, [], [((0, 29), (0,))] * 99 + [((0, 30), (0,))])
        self.assert_refused(InvalidReport, {"place": 0}, 0, [], [((0,), ())])

    def test_every_report_of_small_integers(self):
        tuples = [(), *itertools.product(range(-1, 3)), *itertools.product(range(-1, 3), repeat=2),
                  *itertools.product(range(3), repeat=3)]
        ascending = {chosen for many in range(3) for chosen in itertools.combinations(range(2), many)}
        for slots, good in itertools.product(tuples, repeat=2):
            if slots and slots in ascending and good in ascending and set(good) <= set(slots):
                self.assertIsNone(check_problem(2, [], [(slots, good)]))
            else:
                self.assert_error(InvalidReport, {"place": 0}, check_problem, 2, [], [(slots, good)])

    def test_a_report_without_a_good_slot_is_a_report(self):
        self.assertIsNone(check_problem(3, [], [((0, 1, 2), ()), ((2,), ())]))
        self.assertEqual(find_order(1, [], [((0,), ())]), ("deadlock", ((0,), (("report", 0),))))

    def test_several_faults_at_once(self):
        self.assert_refused(LimitReached, {"limit": 30}, 31, [(0, 0)], [])
        self.assert_refused(LimitReached, {"limit": 30}, 31, [], [((), ())])
        self.assert_refused(LimitReached, {"limit": 30}, -1, [(0, 0)], [((), ())])
        self.assert_refused(LimitReached, {"limit": 30}, -1, [(0, 1)], [((0,), ())])
        self.assert_refused(InvalidPair, {"place": 1}, 2, [(0, 1), (1, 1)], [((), ())])
        self.assert_refused(InvalidPair, {"place": 0}, 0, [(0, 1)], [((0,), (0,))])
        self.assert_refused(InvalidPair, {"place": 1}, 2, [(0, 1), (0, 2), (-1, 0)], [((1, 0), ()), ((), ())])
        self.assert_refused(InvalidReport, {"place": 1}, 2, [(0, 1)], [((1,), ()), ((), (1,)), ((1, 0), (2,))])

    def test_names_of_the_parameters(self):
        self.assertIsNone(check_problem(size=2, pairs=[(0, 1)], reports=[]))
        self.assertIs(agrees(size=2, pairs=[(0, 1)], reports=[], order=[0, 1]), True)
        self.assertEqual(find_order(size=2, pairs=[(1, 0)], reports=[]), ("order", [1, 0]))
        self.assertEqual(layers(size=2, pairs=[(1, 0)], reports=[]), [[1], [0]])
        self.assertEqual(largest_deadlock(size=2, pairs=[(1, 0)], reports=[((0,), ())]), [0])
        self.assertEqual(largest_deadlock(size=2, pairs=[(1, 0)], reports=[((1,), ())]), [0, 1])


class Agreement(unittest.TestCase):
    def test_all_orders_of_small_problems(self):
        for problem in problems.SMALL + problems.drawn_problems(2, 150):
            size, pairs, reports = problem
            for order in problems.all_orders(size):
                expected = problems.order_agrees(pairs, reports, order)
                self.assertIs(agrees(size, pairs, reports, order), expected, (problem, order))

    def test_lists_that_are_no_orders(self):
        for size in (0, 1, 2, 3, 30):
            whole = list(range(size))
            self.assertIs(agrees(size, [], [], whole), True)
            wrong = [whole + [size], whole + [-1], [size] + whole, whole + [10 ** 19]]
            for place in range(size):
                wrong.append(whole[:place] + whole[place + 1:])
                wrong.append(whole + [whole[place]])
                wrong.append(whole[:place] + [size] + whole[place + 1:])
                wrong.append(whole[:place] + [-1] + whole[place + 1:])
                wrong.append(whole[:place] + [whole[place - 1]] + whole[place + 1:] if size > 1 else [])
            for order in wrong:
                self.assertIs(agrees(size, [], [], order), False, order)
        self.assertIs(agrees(3, [(0, 1)], [((0, 1), (0,))], [0, 1]), False)
        self.assertIs(agrees(3, [(0, 1)], [((0, 1), (0,))], []), False)

    def test_thirty_slots(self):
        size, pairs, reports = problems.full_problem()
        order = problems.hidden_order()
        self.assertIs(agrees(size, pairs, reports, order), True)
        for place in range(29):
            other = order[:place] + [order[place + 1], order[place]] + order[place + 2:]
            self.assertIs(agrees(size, pairs, reports, other), False)
        size, pairs, reports = problems.full_stuck_problem()
        self.assertIs(agrees(size, pairs, reports[:-1], order), True)
        self.assertIs(agrees(size, pairs, reports, order), False)


class Found(unittest.TestCase):
    def check_found(self, problem, possible):
        """Checks what find_order returns, where it is known whether an order agrees."""
        answer = find_order(*problem)
        self.assertIs(type(answer), tuple)
        word, thing = answer
        if possible:
            self.assertEqual(word, "order", problem)
            self.assertIs(type(thing), list)
            self.assertEqual(sorted(thing), list(range(problem[0])))
            self.assertTrue(problems.order_agrees(problem[1], problem[2], thing), (problem, thing))
        else:
            self.assertEqual(word, "deadlock", problem)
            self.assertEqual([type(part) for part in (thing, *thing, *thing[1])], [tuple] * (3 + len(thing[1])))
            self.assertTrue(problems.own_is_deadlock(*problem, thing), (problem, thing))
        self.assertEqual(find_order(*problem), answer)

    def test_small_problems(self):
        counts = [0, 0]
        for problem in problems.SMALL + problems.drawn_problems(3, 400):
            possible = len(problems.agreeing_orders(*problem)) > 0
            counts[possible] += 1
            self.check_found(problem, possible)
        self.assertGreater(min(counts), 50)

    def test_larger_problems(self):
        for problem in problems.drawn_problems(4, 150, 6, 30):
            self.check_found(problem, not problems.own_rounds(*problem)[1])

    def test_no_slots(self):
        self.assertEqual(find_order(0, [], []), ("order", []))

    def test_thirty_slots_in_a_short_time(self):
        start = time.process_time()
        self.assertEqual(find_order(*problems.full_problem()), ("order", problems.hidden_order()))
        self.check_found(problems.full_open_problem(), True)
        self.check_found(problems.full_stuck_problem(), False)
        self.check_found(problems.full_ring_problem(), False)
        self.assertLess(time.process_time() - start, 10)


class Layers(unittest.TestCase):
    def check_layers(self, problem):
        expected, rest = problems.own_rounds(*problem)
        self.assertEqual(layers(*problem), expected, problem)
        self.assertEqual(largest_deadlock(*problem), rest, problem)

    def test_small_problems(self):
        for problem in problems.SMALL + problems.drawn_problems(5, 400):
            self.check_layers(problem)
            possible = len(problems.agreeing_orders(*problem)) > 0
            self.assertEqual(largest_deadlock(*problem) == [], possible, problem)

    def test_larger_problems(self):
        for problem in problems.drawn_problems(6, 150, 6, 30):
            self.check_layers(problem)

    def test_no_slots(self):
        self.assertEqual(layers(0, [], []), [])
        self.assertEqual(largest_deadlock(0, [], []), [])

    def test_slots_of_one_round_leave_together(self):
        self.assertEqual(layers(3, [(1, 0)], []), [[1, 2], [0]])
        self.assertEqual(layers(3, [], [((0, 1, 2), (2,))]), [[2], [0, 1]])
        self.assertEqual(layers(4, [(0, 1), (1, 0), (2, 3)], []), [[2], [3]])
        self.assertEqual(layers(2, [(0, 1), (1, 0)], []), [])

    def test_thirty_slots_in_a_short_time(self):
        start = time.process_time()
        self.assertEqual(layers(*problems.full_problem()), [[slot] for slot in problems.hidden_order()])
        self.assertEqual(largest_deadlock(*problems.full_problem()), [])
        self.assertEqual(layers(*problems.full_stuck_problem()), [])
        self.assertEqual(largest_deadlock(*problems.full_stuck_problem()), list(range(30)))
        self.assertLess(time.process_time() - start, 10)
        self.check_layers(problems.full_open_problem())
        self.check_layers(problems.full_ring_problem())

    def test_more_than_the_documented_many(self):
        pairs = [(0, 1), (1, 2)] * 310
        reports = [((0, 1, 2), (0,))] * 110
        self.assertEqual(layers(3, pairs, reports), [[0], [1], [2]])


class GeneralRules(unittest.TestCase):
    def test_tuples_for_lists_and_unchanged_arguments(self):
        for size, pairs, reports in problems.SMALL:
            order = list(range(size))
            deadlock = find_order(size, pairs, reports)[1] if largest_deadlock(size, pairs, reports) else NOTHING
            calls = [(check_problem, ()), (agrees, (order,)), (find_order, ()), (layers, ()), (largest_deadlock, ()),
                     (is_deadlock, (deadlock,)), (is_irreducible, (deadlock,))]
            if deadlock != NOTHING:
                calls.append((shrink, (deadlock,)))
            if size > 1:
                calls += [(possible_first, (order,)), (compare_slots, (1, 0))]
            for function, more in calls:
                before = copy.deepcopy((pairs, reports, more))
                answer = function(size, pairs, reports, *more)
                self.assertEqual((pairs, reports, more), before)
                others = [tuple(thing) if isinstance(thing, list) else thing for thing in more]
                self.assertEqual(function(size, tuple(pairs), tuple(reports), *others), answer)
                self.assertEqual(function(size, pairs, reports, *more), answer)

    def test_returned_lists_are_new(self):
        problem = (3, [(0, 1)], [((1, 2), (2,))])
        stuck = (3, [(0, 1), (1, 0)], [])
        find_order(*problem)[1].clear()
        layers(*problem)[0].clear()
        layers(*problem).clear()
        largest_deadlock(*stuck).clear()
        self.assertEqual(sorted(find_order(*problem)[1]), [0, 1, 2])
        self.assertEqual(layers(*problem), [[0, 2], [1]])
        self.assertEqual(largest_deadlock(*stuck), [0, 1])


if __name__ == "__main__":
    unittest.main()
