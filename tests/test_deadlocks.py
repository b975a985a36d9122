"""[10] deadlocks; [12] irreducible deadlocks."""

import itertools
import random
import time
import unittest

from hiddenrank.deadlocks import is_deadlock, is_irreducible, shrink
from hiddenrank.errors import NotADeadlock
from hiddenrank.orders import find_order
from tests import problems
from tests.support import ErrorChecks

# Slots 0 to 3 block each other in two ways; slots 4 and 5 are free; the last pair and report concern a free slot.
SIZE = 6
PAIRS = [(0, 1), (1, 2), (2, 0), (4, 3)]
REPORTS = [((0, 1, 2), ()), ((1, 3), (1,)), ((3, 5), (5,)), ((0, 1), (0,))]
DEADLOCK = ((0, 1, 2, 3), (("pair", 2), ("report", 3), ("report", 0), ("report", 1)))


def ring_deadlock():
    """The ring of 30 slots as a deadlock of the full ring problem."""
    return tuple(range(30)), tuple(("pair", (slot - 1) % 30) for slot in range(30))


class Deadlocks(unittest.TestCase):
    def assert_none(self, slots, reasons):
        self.assertIs(is_deadlock(SIZE, PAIRS, REPORTS, (slots, reasons)), False, (slots, reasons))

    def with_reason(self, at, reason):
        slots, reasons = DEADLOCK
        return slots, reasons[:at] + (reason,) + reasons[at + 1:]

    def test_found_deadlocks(self):
        for problem in problems.stuck_problems(11, 300, 1, 12):
            self.assertIs(is_deadlock(*problem, find_order(*problem)[1]), True)
        self.assertIs(is_deadlock(SIZE, PAIRS, REPORTS, DEADLOCK), True)
        self.assertIs(is_deadlock(size=SIZE, pairs=PAIRS, reports=REPORTS, deadlock=DEADLOCK), True)
        self.assertIs(is_deadlock(*problems.full_ring_problem(), ring_deadlock()), True)

    def test_other_reasons_that_hold(self):
        for at, reason in ((0, ("report", 0)), (1, ("pair", 0)), (1, ("report", 0)), (2, ("pair", 1))):
            self.assertIs(is_deadlock(SIZE, PAIRS, REPORTS, self.with_reason(at, reason)), True, reason)

    def test_a_part_of_the_largest_deadlock(self):
        self.assertIs(is_deadlock(SIZE, PAIRS, REPORTS, ((0, 1, 2), DEADLOCK[1][:3])), True)
        self.assertIs(is_deadlock(SIZE, PAIRS, REPORTS, ((0, 1, 2), (("report", 0),) * 3)), True)

    def test_empty(self):
        self.assert_none((), ())
        self.assertIs(is_deadlock(0, [], [], ((), ())), False)

    def test_not_ascending_or_repeated(self):
        slots, reasons = DEADLOCK
        for order in itertools.permutations(range(4)):
            moved = tuple(slots[at] for at in order), tuple(reasons[at] for at in order)
            self.assertIs(is_deadlock(SIZE, PAIRS, REPORTS, moved), moved == DEADLOCK)
        for at in range(4):
            self.assert_none(slots[:at + 1] + slots[at:], reasons[:at + 1] + reasons[at:])

    def test_lengths_that_differ(self):
        slots, reasons = DEADLOCK
        self.assert_none(slots, reasons[:3])
        self.assert_none(slots, reasons + (("report", 2),))
        self.assert_none(slots, reasons + reasons[-1:])
        self.assert_none(slots[:3], reasons)
        self.assert_none(slots, ())
        self.assert_none((), reasons)

    def test_slots_out_of_range(self):
        slots, reasons = DEADLOCK
        for more in (("pair", 0), ("report", 0), ("pair", 9)):
            self.assert_none((-1,) + slots, (more,) + reasons)
            self.assert_none(slots + (6,), reasons + (more,))
            self.assert_none(slots + (10 ** 19,), reasons + (more,))
        self.assert_none((-1,), (("pair", 0),))
        self.assertIs(is_deadlock(1, [], [((0,), ())], ((-1,), (("report", 0),))), False)

    def test_other_words(self):
        for at in range(4):
            word, place = DEADLOCK[1][at]
            for other in ("", "pairs", "Pair", "reports", "Report", "pair ", "order", "slot", word[:-1]):
                self.assert_none(*self.with_reason(at, (other, place)))
        for at, reason in ((0, ("report", 2)), (1, ("pair", 3)), (3, ("pair", 1))):
            self.assert_none(*self.with_reason(at, reason))

    def test_numbers_out_of_range(self):
        for at in range(4):
            word, place = DEADLOCK[1][at]
            for other in (-1, -4, 4, 5, 10 ** 19, -(10 ** 19), place - 4):
                self.assert_none(*self.with_reason(at, (word, other)))

    def test_a_pair_whose_weaker_slot_is_another_one(self):
        self.assert_none(*self.with_reason(0, ("pair", 0)))
        self.assert_none(*self.with_reason(0, ("pair", 1)))
        self.assert_none(*self.with_reason(3, ("pair", 2)))

    def test_a_stronger_slot_outside(self):
        self.assert_none(*self.with_reason(3, ("pair", 3)))
        self.assertIs(is_deadlock(2, [(0, 1)], [], ((1,), (("pair", 0),))), False)

    def test_a_slot_of_the_report_outside(self):
        self.assert_none(*self.with_reason(3, ("report", 2)))
        self.assertIs(is_deadlock(2, [], [((0, 1), (0,))], ((1,), (("report", 0),))), False)
        self.assertIs(is_deadlock(3, [(0, 1), (1, 0)], [((0, 2), (2,))], ((0, 1), (("report", 0), ("pair", 0)))), False)

    def test_a_report_without_the_slot(self):
        self.assert_none(*self.with_reason(3, ("report", 0)))
        self.assert_none(*self.with_reason(0, ("report", 1)))
        self.assert_none(*self.with_reason(2, ("report", 3)))

    def test_a_good_slot(self):
        self.assert_none(*self.with_reason(0, ("report", 3)))
        self.assert_none(*self.with_reason(1, ("report", 1)))

    def test_drawn_contents(self):
        source = random.Random(12)
        counts = [0, 0]
        for problem in problems.stuck_problems(13, 600, 1, 4):
            size, pairs, reports = problem
            for k in range(20):
                slots = tuple(sorted(source.sample(range(size), source.randint(1, size))))
                reasons = tuple((source.choice(["pair", "report"]), source.randint(-1, 5)) for slot in slots)
                expected = problems.own_is_deadlock(*problem, (slots, reasons))
                counts[expected] += 1
                self.assertIs(is_deadlock(*problem, (slots, reasons)), expected, (problem, slots, reasons))
        self.assertGreater(min(counts), 50)

    def test_every_small_content(self):
        problem = (2, [(0, 1)], [((0, 1), (1,)), ((0,), ())])
        reasons = list(itertools.product(("pair", "report", "x"), range(-1, 3)))
        for slots in [(), (0,), (1,), (0, 1), (1, 0), (0, 0), (0, 2), (-1, 0)]:
            for many in range(3):
                for chosen in itertools.product(reasons, repeat=many):
                    expected = problems.own_is_deadlock(*problem, (slots, chosen))
                    self.assertIs(is_deadlock(*problem, (slots, chosen)), expected, (slots, chosen))

    def test_no_deadlock_beside_an_agreeing_order(self):
        problem = (2, [(0, 1)], [((0, 1), (0,))])
        reasons = list(itertools.product(("pair", "report"), range(2)))
        for slots in [(0,), (1,), (0, 1)]:
            for chosen in itertools.product(reasons, repeat=len(slots)):
                self.assertIs(is_deadlock(*problem, (slots, chosen)), False)


class Irreducible(unittest.TestCase, ErrorChecks):
    def test_true_and_false(self):
        cases = [
            (True, ((0, 1, 2), (("pair", 2), ("pair", 0), ("pair", 1)))),
            (True, ((0, 1, 2), (("report", 0),) * 3)),
            (False, ((0, 1, 2), (("pair", 2), ("pair", 0), ("report", 0)))),
            (False, ((0, 1, 2, 3), (("report", 0), ("report", 0), ("report", 0), ("report", 1)))),
            (False, DEADLOCK),
        ]
        for expected, deadlock in cases:
            self.assertIs(is_deadlock(SIZE, PAIRS, REPORTS, deadlock), True)
            self.assertIs(is_irreducible(SIZE, PAIRS, REPORTS, deadlock), expected, deadlock)
            self.assertIs(is_irreducible(size=SIZE, pairs=PAIRS, reports=REPORTS, deadlock=deadlock), expected)

    def test_equal_pairs_at_two_places(self):
        pairs = [(0, 1), (1, 0), (0, 1)]
        for place in (0, 2):
            self.assertIs(is_irreducible(2, pairs, [], ((0, 1), (("pair", 1), ("pair", place)))), True)

    def test_a_used_report_counts_for_all_its_slots(self):
        # Report 0 alone blocks both slots, although the deadlock names it for one of them only.
        deadlock = ((0, 1), (("report", 0), ("pair", 0)))
        self.assertIs(is_irreducible(2, [(0, 1)], [((0, 1), ())], deadlock), False)
        self.assertEqual(shrink(2, [(0, 1)], [((0, 1), ())], deadlock), ((0, 1), (("report", 0), ("report", 0))))

    def test_what_is_no_deadlock(self):
        slots, reasons = DEADLOCK
        wrong = [((), ()), (slots, reasons[:3]), (slots[::-1], reasons[::-1]), (slots, reasons[::-1]),
                 ((0, 1, 2), (("pair", 2), ("pair", 0), ("pair", -3))),
                 ((0, 1, 2), (("pair", 2), ("pair", 0), ("x", 1))),
                 ((0, 1), (("pair", 2), ("pair", 0))), ((0, 1, 6), (("pair", 2), ("pair", 0), ("pair", 1)))]
        for deadlock in wrong:
            self.assertIs(is_irreducible(SIZE, PAIRS, REPORTS, deadlock), False, deadlock)
            self.assert_error(NotADeadlock, {}, shrink, SIZE, PAIRS, REPORTS, deadlock)
        self.assert_error(NotADeadlock, {}, shrink, 0, [], [], ((), ()))
        self.assert_error(NotADeadlock, {}, shrink, 2, [(0, 1)], [], ((0, 1), (("pair", 0), ("pair", 0))))

    def test_drawn_problems(self):
        counts = [0, 0]
        for problem in problems.stuck_problems(14, 600, 1, 12):
            deadlock = find_order(*problem)[1]
            expected = problems.own_is_irreducible(*problem, deadlock)
            counts[expected] += 1
            self.assertIs(is_irreducible(*problem, deadlock), expected, (problem, deadlock))
        self.assertGreater(min(counts), 20)


class Shrink(unittest.TestCase):
    def check_shrink(self, problem, deadlock):
        small = shrink(*problem, deadlock)
        self.assertEqual([type(part) for part in (small, *small, *small[1])], [tuple] * (3 + len(small[1])))
        self.assertTrue(problems.own_is_deadlock(*problem, small), (problem, deadlock, small))
        self.assertTrue(problems.own_is_irreducible(*problem, small), (problem, deadlock, small))
        self.assertLessEqual(set(small[1]), set(deadlock[1]))
        self.assertIs(is_irreducible(*problem, small), True)
        self.assertEqual(shrink(*problem, deadlock), small)
        self.assertEqual(set(shrink(*problem, small)[1]), set(small[1]))

    def test_drawn_problems(self):
        for problem in problems.stuck_problems(15, 600, 1, 12) + problems.stuck_problems(16, 200, 10, 30):
            self.check_shrink(problem, find_order(*problem)[1])

    def test_given_deadlocks(self):
        self.check_shrink((SIZE, PAIRS, REPORTS), DEADLOCK)
        self.assertEqual(shrink(size=SIZE, pairs=PAIRS, reports=REPORTS, deadlock=DEADLOCK),
                         shrink(SIZE, PAIRS, REPORTS, DEADLOCK))

    def test_only_what_the_given_one_uses(self):
        pairs = [(1, 0), (0, 1), (1, 2), (2, 3), (3, 0), (1, 0)]
        ring = ((0, 1, 2, 3), (("pair", 4), ("pair", 1), ("pair", 2), ("pair", 3)))
        self.assertEqual(shrink(4, pairs, [], ring), ring)
        two = ((0, 1), (("pair", 5), ("pair", 1)))
        self.assertEqual(shrink(4, pairs, [], two), two)

    def test_thirty_slots_in_a_short_time(self):
        start = time.process_time()
        for problem in (problems.full_stuck_problem(), problems.full_ring_problem()):
            self.check_shrink(problem, find_order(*problem)[1])
        problem = problems.full_ring_problem()
        self.assertIs(is_irreducible(*problem, ring_deadlock()), True)
        self.assertEqual(shrink(*problem, ring_deadlock()), ring_deadlock())
        self.assertLess(time.process_time() - start, 10)


if __name__ == "__main__":
    unittest.main()
