"""Problems for several test files, and what the document says of them, computed by the tests' own means."""

import itertools
import random

# Size, pairs, reports: with and without an agreeing order, with empty parts, with repeated pairs and reports.
SMALL = [
    (0, [], []),
    (1, [], []),
    (1, [], [((0,), (0,))]),
    (1, [], [((0,), ())]),
    (2, [], []),
    (2, [(1, 0)], []),
    (2, [(1, 0), (1, 0)], []),
    (2, [(0, 1), (1, 0)], []),
    (2, [], [((0, 1), (1,))]),
    (2, [], [((0, 1), (1,)), ((0, 1), (0,))]),
    (2, [(0, 1)], [((0, 1), (1,))]),
    (2, [(0, 1)], [((0, 1), (0, 1))]),
    (2, [], [((1,), ())]),
    (3, [(0, 1)], [((1, 2), (2,))]),
    (3, [(0, 1), (1, 0), (0, 2)], []),
    (3, [(0, 1), (1, 2), (2, 0)], []),
    (3, [(2, 0)], [((0, 1, 2), (0, 1)), ((0, 1), (0,))]),
    (3, [], [((0, 1, 2), (1,)), ((0, 1), (0,))]),
    (3, [], [((0, 1, 2), (0, 2)), ((0, 1), (1,)), ((1, 2), (1,))]),
    (3, [], [((0, 1, 2), ())]),
    (4, [(3, 2), (1, 0)], [((0, 1, 2, 3), (1, 3)), ((1, 3), (1,))]),
    (4, [(2, 3)], [((0, 3), (3,)), ((1, 2, 3), (1,)), ((0, 1), (0,)), ((2, 3), (2,))]),
    (5, [(4, 3), (3, 2), (2, 1), (1, 0)], []),
    (5, [(0, 4), (1, 4)], [((0, 1, 2), (2,)), ((2, 3), (3,)), ((3, 4), (4,))]),
]


def order_agrees(pairs, reports, order):
    """Whether a list of all slots agrees, word for word as [9] says it."""
    for stronger, weaker in pairs:
        if order.index(stronger) > order.index(weaker):
            return False
    for slots, good in reports:
        if next(slot for slot in order if slot in slots) not in good:
            return False
    return True


def all_orders(size):
    return [list(order) for order in itertools.permutations(range(size))]


def agreeing_orders(size, pairs, reports):
    return [order for order in all_orders(size) if order_agrees(pairs, reports, order)]


def own_rounds(size, pairs, reports):
    """The layers and the remaining slots, by the rounds of [11], with sets."""
    left = set(range(size))
    layers = []
    while True:
        layer = set()
        for slot in left:
            held = any(weaker == slot and stronger in left for stronger, weaker in pairs)
            refused = any(slot in slots and slot not in good and set(slots) <= left for slots, good in reports)
            if not held and not refused:
                layer.add(slot)
        if not layer:
            return layers, sorted(left)
        layers.append(sorted(layer))
        left -= layer


def own_is_deadlock(size, pairs, reports, deadlock):
    """Whether a pair is a deadlock, by [10]."""
    slots, reasons = deadlock
    if not slots or list(slots) != sorted(set(slots)) or not set(slots) <= set(range(size)):
        return False
    if len(slots) != len(reasons):
        return False
    for slot, (word, place) in zip(slots, reasons):
        if word == "pair" and place in range(len(pairs)):
            good = pairs[place][1] == slot and pairs[place][0] in slots
        elif word == "report" and place in range(len(reports)):
            reported, allowed = reports[place]
            good = slot in reported and slot not in allowed and set(reported) <= set(slots)
        else:
            good = False
        if not good:
            return False
    return True


def own_is_irreducible(size, pairs, reports, deadlock):
    """Whether a deadlock is irreducible, by [12] with the rounds of the tests."""
    used = set(deadlock[1])
    for left_out in used:
        rest = used - {left_out}
        some_pairs = [pair for place, pair in enumerate(pairs) if ("pair", place) in rest]
        some_reports = [report for place, report in enumerate(reports) if ("report", place) in rest]
        if own_rounds(size, some_pairs, some_reports)[1]:
            return False
    return True


def drawn_report(source, size):
    slots = sorted(source.sample(range(size), source.randint(1, size)))
    return tuple(slots), tuple(slot for slot in slots if source.random() < 0.6)


def drawn_problem(source, size, most_pairs, most_reports):
    pairs = [tuple(source.sample(range(size), 2)) for k in range(source.randint(0, most_pairs) if size > 1 else 0)]
    reports = [drawn_report(source, size) for k in range(source.randint(0, most_reports) if size > 0 else 0)]
    return size, pairs, reports


def drawn_problems(seed, many, least=0, largest=5):
    """Drawn problems, the same ones for the same arguments."""
    source = random.Random(seed)
    return [drawn_problem(source, source.randint(least, largest), 5, 5) for k in range(many)]


def stuck_problems(seed, many, least, largest):
    """Drawn problems without an agreeing order."""
    found = [problem for problem in drawn_problems(seed, many, least, largest) if own_rounds(*problem)[1]]
    assert len(found) > many // 10
    return found


def hidden_order():
    order = list(range(30))
    random.Random(7).shuffle(order)
    return order


def full_problem():
    """30 slots, 600 pairs and 100 reports that agree with the hidden order and with no other one."""
    source = random.Random(8)
    order = hidden_order()
    pairs = [(order[one], order[other]) for one in range(30) for other in range(one + 1, 30)]
    pairs += [source.choice(pairs) for k in range(600 - len(pairs))]
    source.shuffle(pairs)
    reports = []
    for k in range(100):
        slots = sorted(source.sample(range(30), source.randint(1, 30)))
        best = min(slots, key=order.index)
        reports.append((tuple(slots), tuple(slot for slot in slots if slot == best or source.random() < 0.3)))
    return 30, pairs, reports


def full_stuck_problem():
    """The same size, but the last report allows only the weakest slot to come first: all slots remain."""
    size, pairs, reports = full_problem()
    return size, pairs, reports[:-1] + [(tuple(range(30)), (hidden_order()[-1],))]


def full_open_problem():
    """30 slots, 600 pairs and 100 wide reports that leave many orders."""
    source = random.Random(9)
    pairs = [(source.randrange(0, 10), source.randrange(10, 30)) for k in range(600)]
    reports = [(tuple(range(30)), tuple(range(10)))] * 50 + [(tuple(range(10, 30)), tuple(range(10, 20)))] * 50
    return 30, pairs, reports


def full_ring_problem():
    """30 slots in one ring of pairs, with 570 pairs beside it, and 100 reports without a fault in them."""
    source = random.Random(10)
    ring = [(slot, (slot + 1) % 30) for slot in range(30)]
    pairs = ring + [tuple(source.sample(range(30), 2)) for k in range(570)]
    return 30, pairs, [(tuple(range(30)), tuple(range(30)))] * 100
