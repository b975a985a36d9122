"""What keeps slots from being taken: the common ground of orders and deadlocks.

A set of slots is kept as a mask, an integer with one bit for each slot, because one step then tells whether it
contains another set. An obstacle of a slot is a pair (mask, reason): the slot cannot be taken from a set that
contains all slots of the mask, and the reason names the pair or the report that says so.
"""


def mask_of(slots):
    """Returns the mask of some distinct slots."""
    return sum([1 << slot for slot in slots])


def slots_of(mask):
    """Returns the ascending list of the slots of a mask."""
    return [slot for slot in range(mask.bit_length()) if (mask >> slot) & 1 == 1]


def obstacles_of(size, pairs, reports):
    """Returns the list that has, for each slot of a problem, the list of its obstacles."""
    obstacles = [[] for slot in range(size)]
    for place, (stronger, weaker) in enumerate(pairs):
        obstacles[weaker].append((mask_of([stronger]), ("pair", place)))
    for place, (slots, good) in enumerate(reports):
        mask = mask_of(slots)
        for slot in slots:
            if slot not in good:
                obstacles[slot].append((mask, ("report", place)))
    return obstacles


def only_for(obstacles, reasons):
    """Returns the obstacles of the problem that has only the pairs and reports that some reasons name."""
    return [[obstacle for obstacle in row if obstacle[1] in reasons] for row in obstacles]


def without(obstacles, reason):
    """Returns the obstacles of the problem that lacks the pair or the report that a reason names."""
    return [[obstacle for obstacle in row if obstacle[1] != reason] for row in obstacles]


def reason_against(obstacles, slot, mask):
    """Returns the first reason why a slot cannot be taken from a set, or None if it can be taken."""
    for needed, reason in obstacles[slot]:
        if needed & mask == needed:
            return reason
    return None


def takeable(obstacles, mask):
    """Returns the ascending list of the slots that can be taken from a set."""
    return [slot for slot in slots_of(mask) if reason_against(obstacles, slot, mask) is None]


def peel(obstacles, spared=()):
    """Takes slots in rounds, never a spared one; returns the list of the rounds and the mask of what remains."""
    rounds = []
    left = (1 << len(obstacles)) - 1
    while True:
        taken = [slot for slot in takeable(obstacles, left) if slot not in spared]
        if len(taken) == 0:
            return (rounds, left)
        rounds.append(taken)
        left -= mask_of(taken)


def remainder(obstacles):
    """Returns the mask of the largest deadlock; it is 0 exactly if an order agrees."""
    rounds, left = peel(obstacles)
    return left


def deadlock_of(obstacles, mask):
    """Returns the deadlock that consists of the slots of a mask, none of which can be taken from it."""
    slots = slots_of(mask)
    return (tuple(slots), tuple([reason_against(obstacles, slot, mask) for slot in slots]))
