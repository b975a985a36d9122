"""Ledgers: rules, moves and evidence with their history, and what is possible at every moment."""

from hiddenrank.commands import check_form
from hiddenrank.deadlocks import compare_slots
from hiddenrank.deeds import check_outcome, do_deed
from hiddenrank.errors import BatchFailed, DuplicateName, InvalidMoment, InvalidName, LimitReached, NotFound
from hiddenrank.errors import NothingLeft, RankError, UnknownRule
from hiddenrank.orders import find_order
from hiddenrank.outlooks import Outlook
from hiddenrank.schemas import check_count, is_name
from hiddenrank.states import State, recorded_between

MAX_EFFECTS = 6
MAX_DEEDS = 120


def checked_effects(effects):
    """Returns the effects of a ledger as a tuple."""
    check_count(len(effects), MAX_EFFECTS)
    kept = []
    for effect in effects:
        if not is_name(effect) or effect == "none":
            raise InvalidName(effect)
        if effect in kept:
            raise DuplicateName(effect)
        kept.append(effect)
    return tuple(kept)


def entry_behind(state, many, command):
    """Returns the pair of a command, as it is kept, and the state behind its deed, if there are so many deeds."""
    check_form(command)
    if many >= MAX_DEEDS:
        raise LimitReached(MAX_DEEDS)
    return do_deed(state, command)


class Ledger:
    """The deeds in their order, with the state behind each of them, and the steps that can be undone and redone."""

    def __init__(self, schema, effects):
        self.frame = schema
        self.kinds = checked_effects(effects)
        # One state for each moment: there is always one more of them than there are commands.
        self.states = [State(self.frame, self.kinds)]
        self.commands = []
        # The numbers of deeds of the steps that can be undone, and the entries of those that can be redone. An entry
        # is a pair of a command and the state behind it.
        self.steps = []
        self.undone = []

    def __eq__(self, other):
        if not isinstance(other, Ledger):
            return False
        return self.frame == other.frame and self.kinds == other.kinds and self.commands == other.commands

    def __len__(self):
        return len(self.states[-1].known)

    def __repr__(self):
        return f"Ledger({len(self.states[-1].known)} rules, {len(self.commands)} deeds)"

    def append_step(self, entries):
        """Appends the entries of one step."""
        for command, state in entries:
            self.commands.append(command)
            self.states.append(state)
        self.steps.append(len(entries))

    def apply(self, command):
        """Does a deed as one step."""
        self.append_step([entry_behind(self.states[-1], len(self.commands), command)])
        self.undone = []

    def apply_all(self, commands):
        """Does the deeds of a list of commands in order, as one step."""
        entries = []
        state = self.states[-1]
        for position, command in enumerate(commands):
            try:
                kept, state = entry_behind(state, len(self.commands) + position, command)
            except (RankError, NotFound) as error:
                raise BatchFailed(position, error.word) from None
            entries.append((kept, state))
        if len(entries) > 0:
            self.append_step(entries)
            self.undone = []

    def add_rule(self, name, condition, effect):
        """Applies the command `add`."""
        self.apply(("add", name, condition, effect))

    def observe(self, request, outcomes):
        """Applies the command `observe`."""
        self.apply(("observe", request, tuple(outcomes)))

    def compare(self, name, other):
        """Applies the command `compare`."""
        self.apply(("compare", name, other))

    def rewrite(self, name, *, condition=None, effect=None):
        """Applies the command `rewrite`; None stands for what the rule has at present."""
        text, kind = self.rule(name)
        if condition is not None:
            text = condition
        if effect is not None:
            kind = effect
        self.apply(("rewrite", name, text, kind))

    def undo(self):
        """Reverts the last step."""
        if len(self.steps) == 0:
            raise NothingLeft()
        start = len(self.commands) - self.steps.pop()
        self.undone.append(tuple(zip(self.commands[start:], self.states[start + 1:])))
        self.commands = self.commands[:start]
        self.states = self.states[:start + 1]

    def redo(self):
        """Applies again the step that was reverted last."""
        if len(self.undone) == 0:
            raise NothingLeft()
        self.append_step(self.undone.pop())

    def forget_steps(self):
        """Makes the history empty; the deeds stay."""
        self.steps = []
        self.undone = []

    def history(self):
        """Returns the pair of the numbers of steps that can be undone and redone."""
        return (len(self.steps), len(self.undone))

    def clone(self):
        """Returns an independent ledger with the same deeds and history."""
        twin = Ledger(self.frame, self.kinds)
        twin.states = list(self.states)
        twin.commands = list(self.commands)
        twin.steps = list(self.steps)
        twin.undone = list(self.undone)
        return twin

    def schema(self):
        """Returns the schema."""
        return self.frame

    def effects(self):
        """Returns the list of the effects."""
        return list(self.kinds)

    def present(self):
        """Returns the present moment."""
        return len(self.commands)

    def deeds(self):
        """Returns the list of the commands of all deeds, as they are kept."""
        return list(self.commands)

    def state_at(self, moment):
        """Returns the state at a moment; None stands for the present one."""
        if moment is None:
            return self.states[-1]
        if moment < 0 or moment > len(self.commands):
            raise InvalidMoment(moment)
        return self.states[moment]

    def names(self, *, moment=None):
        """Returns the ascending list of the names of the rules."""
        return self.state_at(moment).places.names()

    def rule(self, name, *, moment=None):
        """Returns the pair of the canonical text of the condition and the effect of a rule."""
        state = self.state_at(moment)
        if name not in state.known:
            raise UnknownRule(name)
        return (state.known[name].text, state.known[name].effect)

    def layout(self, *, moment=None):
        """Returns the layout, with the slots that were made up to the moment."""
        return self.state_at(moment).places

    def problem(self):
        """Returns the tuple of the number of slots, the list of the pairs and the list of the reports."""
        return self.states[-1].problem()

    def speakers(self, request, *, moment=None):
        """Returns the list of the pairs (slot, name) of the speakers of a request, by ascending slots."""
        state = self.state_at(moment)
        return state.speakers(self.frame.number_of(request))

    def outlook(self):
        """Returns what the evidence of all moments leaves possible."""
        return Outlook(self.states[-1])

    def outcomes(self, request, *, moment=None):
        """Returns the list of the possible outcomes of a request, in the order of the effects."""
        state = self.state_at(moment)
        return self.outlook().outcomes_of(state, self.frame.number_of(request))

    def deciders(self, request, *, moment=None):
        """Returns the ascending list of the names of the rules that decide a request in some possible order."""
        state = self.state_at(moment)
        return sorted(self.outlook().deciders_of(state, self.frame.number_of(request)))

    def explain(self, request, outcome, *, moment=None):
        """Returns a certificate that an outcome of a request is possible, is impossible, or that no rule matches."""
        state = self.state_at(moment)
        number = self.frame.number_of(request)
        check_outcome(state, outcome)
        size, pairs, reports = self.problem()
        report = state.report_of(number, (outcome,))
        if len(report[0]) > 0:
            reports.append(report)
        elif outcome != "none":
            return ("nothing", number)
        word, found = find_order(size, pairs, reports)
        return ("possible" if word == "order" else "impossible", found)

    def stronger(self, name, other, *, moment=None):
        """Returns whether one rule is stronger than another one in every possible order: `yes`, `no` or `open`."""
        places = self.state_at(moment).places
        places.check_two(name, other)
        slot, index = places.place_of(name)
        other_slot, other_index = places.place_of(other)
        if slot == other_slot:
            return "yes" if index < other_index else "no"
        size, pairs, reports = self.problem()
        found = compare_slots(size, pairs, reports, slot, other_slot)
        if found == "open":
            return "open"
        return "yes" if found == "stronger" else "no"

    def ranking(self, *, moment=None):
        """Returns the list of the names of the rules, the strongest one first, in some possible order."""
        rows = self.state_at(moment).places.slots()
        size, pairs, reports = self.problem()
        word, order = find_order(size, pairs, reports)
        # The order also has the slots that were made after the moment.
        return [name for slot in order if slot < len(rows) for name in rows[slot]]

    def certain(self, *, moment=None):
        """Returns the ascending list of the numbers of the requests that have exactly one possible outcome."""
        state = self.state_at(moment)
        outlook = self.outlook()
        return [number for number in range(self.frame.size()) if len(outlook.outcomes_of(state, number)) == 1]

    def idle(self, *, moment=None):
        """Returns the ascending list of the names of the rules that decide no request in any possible order."""
        state = self.state_at(moment)
        outlook = self.outlook()
        deciding = {}
        for number in range(self.frame.size()):
            for name in outlook.deciders_of(state, number):
                deciding[name] = True
        return [name for name in state.places.names() if name not in deciding]

    def first_change(self, one, other):
        """Returns the least number of a request whose possible outcomes at two moments differ, or None."""
        before = self.state_at(one)
        behind = self.state_at(other)
        outlook = self.outlook()
        for number in range(self.frame.size()):
            if outlook.outcomes_of(before, number) != outlook.outcomes_of(behind, number):
                return number
        return None

    def sources(self, deadlock):
        """Returns the ascending list of the numbers of the deeds that recorded what a deadlock uses."""
        slots, reasons = deadlock
        found = []
        for number, (before, behind) in enumerate(zip(self.states, self.states[1:])):
            if any([reason in reasons for reason in recorded_between(before, behind)]):
                found.append(number)
        return found
