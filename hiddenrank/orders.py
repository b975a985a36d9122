"""Problems of slots, pairs and reports, and the orders that agree with them."""

from hiddenrank.errors import InvalidPair, InvalidReport, LimitReached
from hiddenrank.obstacles import deadlock_of, obstacles_of, peel, remainder, slots_of

MAX_SLOTS = 30


def is_slot(size, slot):
    """Returns whether an integer is a slot."""
    return 0 <= slot < size


def are_ascending_slots(size, slots):
    """Returns whether integers are slots, each one greater than the one before it."""
    if not all([is_slot(size, slot) for slot in slots]):
        return False
    return all([before < slot for before, slot in zip(slots, slots[1:])])


def is_report(size, slots, good):
    """Returns whether two tuples of integers are a report."""
    if len(slots) == 0 or not are_ascending_slots(size, slots) or not are_ascending_slots(size, good):
        return False
    return all([slot in slots for slot in good])


def check_problem(size, pairs, reports):
    """Raises LimitReached, InvalidPair or InvalidReport for the first fault of a problem."""
    if size < 0 or size > MAX_SLOTS:
        raise LimitReached(MAX_SLOTS)
    for place, (stronger, weaker) in enumerate(pairs):
        if stronger == weaker or not is_slot(size, stronger) or not is_slot(size, weaker):
            raise InvalidPair(place)
    for place, (slots, good) in enumerate(reports):
        if not is_report(size, slots, good):
            raise InvalidReport(place)


def agrees(size, pairs, reports, order):
    """Returns whether a list of integers is an order of all slots that agrees with a problem."""
    check_problem(size, pairs, reports)
    if sorted(order) != list(range(size)):
        return False
    places = {slot: place for place, slot in enumerate(order)}
    if not all([places[stronger] < places[weaker] for stronger, weaker in pairs]):
        return False
    return all([order[min([places[slot] for slot in slots])] in good for slots, good in reports])


def find_order(size, pairs, reports):
    """Returns the pair of `order` and an agreeing order, or the pair of `deadlock` and a deadlock."""
    check_problem(size, pairs, reports)
    obstacles = obstacles_of(size, pairs, reports)
    rounds, left = peel(obstacles)
    if left != 0:
        return ("deadlock", deadlock_of(obstacles, left))
    return ("order", [slot for taken in rounds for slot in taken])


def layers(size, pairs, reports):
    """Returns the list of the layers of a problem, each one as an ascending list."""
    check_problem(size, pairs, reports)
    rounds, left = peel(obstacles_of(size, pairs, reports))
    return rounds


def largest_deadlock(size, pairs, reports):
    """Returns the ascending list of the slots of the largest deadlock of a problem."""
    check_problem(size, pairs, reports)
    return slots_of(remainder(obstacles_of(size, pairs, reports)))
