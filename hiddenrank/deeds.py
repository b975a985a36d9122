"""Deeds: what each command changes in the state of a ledger, and when it is refused.

The function of a command takes a state and the tuple of the command. It returns the pair of the command, as it is
kept, and the state behind the deed.
"""

from hiddenrank.conditions import format_condition, parse_condition
from hiddenrank.errors import Contradiction, DuplicateName, InvalidName, InvalidOutcomes, KnownOrder, LimitReached
from hiddenrank.errors import NothingMatches, UnknownEffect
from hiddenrank.matching import check_condition, truths
from hiddenrank.orders import MAX_SLOTS, find_order
from hiddenrank.schemas import is_name
from hiddenrank.states import Rule

MAX_RULES = 10
MAX_REPORTS = 40


def checked_rule(state, text, effect):
    """Returns the rule with the condition of a text and an effect."""
    condition = parse_condition(text)
    check_condition(state.frame, condition)
    if effect not in state.kinds:
        raise UnknownEffect(effect)
    return Rule(format_condition(condition), effect, truths(state.frame, condition))


def check_slot_left(state):
    """Raises LimitReached if no other slot can be made."""
    if len(state.places) >= MAX_SLOTS:
        raise LimitReached(MAX_SLOTS)


def check_possible(state):
    """Raises Contradiction if no order agrees with the recorded evidence."""
    size, pairs, reports = state.problem()
    word, found = find_order(size, pairs, reports)
    if word == "deadlock":
        raise Contradiction(found)


def check_outcome(state, outcome):
    """Raises UnknownEffect if a string is neither an effect nor `none`."""
    if outcome not in state.kinds and outcome != "none":
        raise UnknownEffect(outcome)


def checked_outcomes(state, outcomes):
    """Returns the tuple of the allowed outcomes as it is kept."""
    if len(outcomes) == 0:
        raise InvalidOutcomes()
    for outcome in outcomes:
        check_outcome(state, outcome)
    return tuple([kind for kind in (*state.kinds, "none") if kind in outcomes])


def do_add(state, command):
    """A new rule in a new slot."""
    word, name, text, effect = command
    if not is_name(name):
        raise InvalidName(name)
    if name in state.known:
        raise DuplicateName(name)
    rule = checked_rule(state, text, effect)
    if len(state.known) >= MAX_RULES:
        raise LimitReached(MAX_RULES)
    check_slot_left(state)
    after = state.changed(places=state.places.added(name), known={**state.known, name: rule})
    return ((word, name, rule.text, effect), after)


def do_rewrite(state, command):
    """Another condition and another effect for a rule."""
    word, name, text, effect = command
    # place_of refuses a name that no rule has; the place itself is not needed.
    state.places.place_of(name)
    rule = checked_rule(state, text, effect)
    return ((word, name, rule.text, effect), state.changed(known={**state.known, name: rule}))


def do_drop(state, command):
    """A rule is removed."""
    word, name = command
    places = state.places.dropped(name)
    known = {other: state.known[other] for other in state.known if other != name}
    return (command, state.changed(places=places, known=known))


def do_raise_or_lower(state, command):
    """A rule stands alone in a new slot that is stronger, or weaker, than all slots made before."""
    word, name = command
    places = state.places.moved(name)
    check_slot_left(state)
    new = len(state.places)
    pairs = [(new, slot) if word == "raise" else (slot, new) for slot in range(new)]
    return (command, state.changed(places=places, pairs=tuple(pairs)))


def do_above_or_below(state, command):
    """A rule stands directly before, or directly behind, another one."""
    word, name, other = command
    return (command, state.changed(places=state.places.beside(name, other, behind=word == "below")))


def do_swap(state, command):
    """Two rules exchange their places."""
    word, name, other = command
    return (command, state.changed(places=state.places.swapped(name, other)))


def do_observe(state, command):
    """The outcome of a request is an allowed one."""
    word, request, outcomes = command
    number = state.frame.number_of(request)
    allowed = checked_outcomes(state, outcomes)
    kept = (word, request, allowed)
    report = state.report_of(number, allowed)
    if len(report[0]) == 0:
        if "none" not in allowed:
            raise NothingMatches(number)
        return (kept, state)
    if len(state.reports) >= MAX_REPORTS:
        raise LimitReached(MAX_REPORTS)
    after = state.changed(reports=(report,))
    check_possible(after)
    return (kept, after)


def do_compare(state, command):
    """A rule is stronger than another one."""
    word, name, other = command
    state.places.check_two(name, other)
    slot, index = state.places.place_of(name)
    other_slot, other_index = state.places.place_of(other)
    if slot == other_slot:
        if index > other_index:
            raise KnownOrder(name, other)
        return (command, state)
    after = state.changed(pairs=((slot, other_slot),))
    check_possible(after)
    return (command, after)


DOERS = {
    "add": do_add, "rewrite": do_rewrite, "drop": do_drop, "raise": do_raise_or_lower, "lower": do_raise_or_lower,
    "above": do_above_or_below, "below": do_above_or_below, "swap": do_swap, "observe": do_observe,
    "compare": do_compare,
}


def do_deed(state, command):
    """Returns the pair of a command of the right form, as it is kept, and the state behind its deed."""
    doer = DOERS[command[0]]
    return doer(state, command)
