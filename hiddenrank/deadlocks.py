"""Deadlocks as certificates, and what all agreeing orders of a problem have in common."""

from hiddenrank.errors import InvalidSlot, NotADeadlock
from hiddenrank.obstacles import deadlock_of, obstacles_of, only_for, peel, remainder, takeable, without
from hiddenrank.orders import are_ascending_slots, check_problem, is_slot


def pair_holds(pairs, place, slot, slots):
    """Returns whether the pair at a place keeps a slot from being the strongest one of some slots."""
    if place < 0 or place >= len(pairs):
        return False
    stronger, weaker = pairs[place]
    return slot == weaker and stronger in slots


def report_holds(reports, place, slot, slots):
    """Returns whether the report at a place keeps a slot from being the strongest one of some slots."""
    if place < 0 or place >= len(reports):
        return False
    reported, good = reports[place]
    return slot in reported and slot not in good and all([one in slots for one in reported])


def reason_holds(pairs, reports, reason, slot, slots):
    """Returns whether a reason keeps a slot from being the strongest one of some slots."""
    word, place = reason
    if word == "pair":
        return pair_holds(pairs, place, slot, slots)
    return word == "report" and report_holds(reports, place, slot, slots)


def is_deadlock(size, pairs, reports, deadlock):
    """Returns whether a pair of a tuple of integers and a tuple of reasons is a deadlock of a problem."""
    check_problem(size, pairs, reports)
    slots, reasons = deadlock
    if len(slots) == 0 or len(slots) != len(reasons) or not are_ascending_slots(size, slots):
        return False
    return all([reason_holds(pairs, reports, reason, slot, slots) for slot, reason in zip(slots, reasons)])


def used_by(size, pairs, reports, deadlock):
    """Returns the ascending list of the reasons of a deadlock, and the obstacles of the problem that has only these."""
    slots, reasons = deadlock
    return (sorted(set(reasons)), only_for(obstacles_of(size, pairs, reports), reasons))


def is_irreducible(size, pairs, reports, deadlock):
    """Returns whether a pair of a tuple of integers and a tuple of reasons is an irreducible deadlock of a problem."""
    if not is_deadlock(size, pairs, reports, deadlock):
        return False
    reasons, obstacles = used_by(size, pairs, reports, deadlock)
    return all([remainder(without(obstacles, reason)) == 0 for reason in reasons])


def shrink(size, pairs, reports, deadlock):
    """Returns an irreducible deadlock that uses only pairs and reports that the given one uses."""
    if not is_deadlock(size, pairs, reports, deadlock):
        raise NotADeadlock()
    reasons, obstacles = used_by(size, pairs, reports, deadlock)
    # One pass is enough: what could not be left out among more obstacles cannot be left out among fewer ones.
    for reason in reasons:
        fewer = without(obstacles, reason)
        if remainder(fewer) != 0:
            obstacles = fewer
    return deadlock_of(obstacles, remainder(obstacles))


def check_some_slots(size, slots):
    """Raises InvalidSlot unless a list has at least one slot, and each one is greater than the one before it."""
    if len(slots) == 0:
        raise InvalidSlot(-1)
    before = -1
    for slot in slots:
        if slot <= before or not is_slot(size, slot):
            raise InvalidSlot(slot)
        before = slot


def possible_first(size, pairs, reports, slots):
    """Returns the ascending list of those of some slots that come first of them in some agreeing order."""
    check_problem(size, pairs, reports)
    check_some_slots(size, slots)
    obstacles = obstacles_of(size, pairs, reports)
    if remainder(obstacles) != 0:
        return []
    # What can be taken stays so when others are taken. So it is enough to take all the other slots that can come
    # before these: one of these can come first of them exactly if it can be taken then.
    rounds, left = peel(obstacles, slots)
    return takeable(obstacles, left)


def compare_slots(size, pairs, reports, one, other):
    """Returns how one slot stands to another one in all agreeing orders: `stronger`, `weaker`, `open` or `none`."""
    check_problem(size, pairs, reports)
    if not is_slot(size, one):
        raise InvalidSlot(one)
    if not is_slot(size, other) or other == one:
        raise InvalidSlot(other)
    first = possible_first(size, pairs, reports, sorted([one, other]))
    if len(first) == 0:
        return "none"
    if len(first) == 2:
        return "open"
    return "stronger" if first[0] == one else "weaker"
