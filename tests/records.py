"""What a ledger must hold after some commands, kept by the tests' own means, and drawn commands."""

import copy
import itertools

from hiddenrank import errors
from hiddenrank.conditions import format_condition, parse_condition
from hiddenrank.ledgers import Ledger
from hiddenrank.matching import check_condition, matches
from hiddenrank.schemas import Schema
from tests.problems import order_agrees, own_rounds
from tests.support import fields_of

FIELDS = [("role", ["admin", "user"]), ("path", ["a", "b", "c"])]
EFFECTS = ["deny", "allow", "ask"]
NAMES = ["any", "none", "b", "a", "zz", "add"]

# Texts that are conditions over FIELDS, with needless spaces and parentheses too.
CONDITIONS = [
    "any", " ( any ) ", "role=admin", "role = user", "path=a", "path=b", "((path=c))", "!role=admin", "(path=a)|path=b",
    "role=admin&path=a", "!(role=user|path=c)", "role=admin & !any", "!!path=a", "any", "role=user | path=a",
]
# Texts that are refused, each by another error.
REFUSED_CONDITIONS = ["role=", "", "x=a", "role=guest", "!" * 8 + "any", "|".join(["any"] * 30), "(" * 21 + "any", " "]


class Refused(Exception):
    """A command that must be refused, with the class and the fields of its error."""

    def __init__(self, kind, **fields):
        super().__init__(kind.__name__)
        self.kind = kind
        self.fields = fields


def must(condition, kind, **fields):
    if not condition:
        raise Refused(kind, **fields)


class Record:
    """Rules, slots and evidence after each deed. A moment is a pair of a dict of rules and a list of slots."""

    def __init__(self, fields=FIELDS, effects=EFFECTS):
        self.fields = fields
        self.effects = list(effects)
        self.schema = Schema(fields)
        self.requests = list(itertools.product(*[values for name, values in fields]))
        self.deeds = []
        self.moments = [({}, [])]
        self.pairs = []
        self.reports = []
        self.origins = {}

    def do(self, command):
        """Does a deed, or raises Refused and changes nothing."""
        lengths = dict(add=4, rewrite=4, drop=2, lower=2, above=3, below=3, swap=3, observe=3, compare=3)
        lengths["raise"] = 2
        must(len(command) > 0 and lengths.get(command[0]) == len(command), errors.InvalidCommand)
        must(len(self.deeds) < 120, errors.LimitReached, limit=120)
        rules, slots = copy.deepcopy(self.moments[-1])
        pairs, reports = [], []
        kept = getattr(self, "do_" + command[0])(rules, slots, pairs, reports, *command[1:])
        for pair in pairs:
            self.origins["pair", len(self.pairs)] = len(self.deeds)
            self.pairs.append(pair)
        for report in reports:
            self.origins["report", len(self.reports)] = len(self.deeds)
            self.reports.append(report)
        self.deeds.append(command if kept is None else (command[0],) + kept)
        self.moments.append((rules, slots))

    def condition_and_effect(self, text, effect):
        try:
            condition = parse_condition(text)
            check_condition(self.schema, condition)
        except (errors.RankError, errors.NotFound) as error:
            raise Refused(type(error), **fields_of(error))
        must(effect in self.effects, errors.UnknownEffect, name=effect)
        return condition

    def known(self, rules, *names):
        for name in names:
            must(name in rules, errors.UnknownRule, name=name)
        if len(names) == 2:
            must(names[0] != names[1], errors.SameRule, name=names[0])

    def do_add(self, rules, slots, pairs, reports, name, text, effect):
        letters = "abcdefghijklmnopqrstuvwxyz"
        must(0 < len(name) < 9 and set(name) <= set(letters), errors.InvalidName, name=name)
        must(name not in rules, errors.DuplicateName, name=name)
        condition = self.condition_and_effect(text, effect)
        must(len(rules) < 10, errors.LimitReached, limit=10)
        must(len(slots) < 30, errors.LimitReached, limit=30)
        rules[name] = (condition, effect)
        slots.append([name])
        return name, format_condition(condition), effect

    def do_rewrite(self, rules, slots, pairs, reports, name, text, effect):
        self.known(rules, name)
        rules[name] = (self.condition_and_effect(text, effect), effect)
        return name, format_condition(rules[name][0]), effect

    def do_drop(self, rules, slots, pairs, reports, name):
        self.known(rules, name)
        del rules[name]
        row_of(slots, name).remove(name)

    def into_a_new_slot(self, rules, slots, name):
        self.known(rules, name)
        must(len(slots) < 30, errors.LimitReached, limit=30)
        row_of(slots, name).remove(name)
        slots.append([name])

    def do_raise(self, rules, slots, pairs, reports, name):
        self.into_a_new_slot(rules, slots, name)
        pairs += [(len(slots) - 1, slot) for slot in range(len(slots) - 1)]

    def do_lower(self, rules, slots, pairs, reports, name):
        self.into_a_new_slot(rules, slots, name)
        pairs += [(slot, len(slots) - 1) for slot in range(len(slots) - 1)]

    def do_above(self, rules, slots, pairs, reports, name, other):
        self.known(rules, name, other)
        row_of(slots, name).remove(name)
        row = row_of(slots, other)
        row.insert(row.index(other), name)

    def do_below(self, rules, slots, pairs, reports, name, other):
        self.known(rules, name, other)
        row_of(slots, name).remove(name)
        row = row_of(slots, other)
        row.insert(row.index(other) + 1, name)

    def do_swap(self, rules, slots, pairs, reports, name, other):
        self.known(rules, name, other)
        exchange = {name: other, other: name}
        slots[:] = [[exchange.get(kept, kept) for kept in row] for row in slots]

    def do_observe(self, rules, slots, pairs, reports, request, outcomes):
        must(len(request) == len(self.fields), errors.InvalidRequest, position=-1)
        for position, (name, values) in enumerate(self.fields):
            must(request[position] in values, errors.InvalidRequest, position=position)
        must(outcomes, errors.InvalidOutcomes)
        for outcome in outcomes:
            must(outcome in self.effects + ["none"], errors.UnknownEffect, name=outcome)
        report = self.report(request, outcomes)
        if report[0]:
            must(len(self.reports) < 40, errors.LimitReached, limit=40)
            self.check_left([], [report])
            reports.append(report)
        else:
            must("none" in outcomes, errors.NothingMatches, number=self.requests.index(request))
        return request, tuple(outcome for outcome in self.effects + ["none"] if outcome in outcomes)

    def do_compare(self, rules, slots, pairs, reports, name, other):
        self.known(rules, name, other)
        row = row_of(slots, name)
        if other in row:
            must(row.index(name) < row.index(other), errors.KnownOrder, name=name, other=other)
        else:
            pair = (slots.index(row), slots.index(row_of(slots, other)))
            self.check_left([pair], [])
            pairs.append(pair)

    def check_left(self, pairs, reports):
        """Contradiction has a free field, so the problem of which it must be a deadlock takes its place."""
        problem = (len(self.moments[-1][1]), self.pairs + pairs, self.reports + reports)
        must(not own_rounds(*problem)[1], errors.Contradiction, deadlock=problem)

    def problem(self):
        return len(self.moments[-1][1]), self.pairs, self.reports

    def speakers(self, request, moment=-1):
        rules, slots = self.moments[moment]
        found = []
        for slot, row in enumerate(slots):
            speaking = [name for name in row if matches(self.schema, rules[name][0], request)]
            found += [(slot, name) for name in speaking[:1]]
        return found

    def report(self, request, outcomes, moment=-1):
        speakers = self.speakers(request, moment)
        rules = self.moments[moment][0]
        return (tuple(slot for slot, name in speakers),
                tuple(slot for slot, name in speakers if rules[name][1] in outcomes))

    def possible_orders(self):
        size, pairs, reports = self.problem()
        return [order for order in itertools.permutations(range(size)) if order_agrees(pairs, reports, order)]

    def ranking_in(self, order, moment=-1):
        """All names, the strongest one first, if this is the hidden order."""
        slots = self.moments[moment][1]
        return [name for slot in order if slot < len(slots) for name in slots[slot]]

    def decider_in(self, order, request, moment=-1):
        """The name of the rule that decides a request if this is the hidden order, or None."""
        rules = self.moments[moment][0]
        for name in self.ranking_in(order, moment):
            if matches(self.schema, rules[name][0], request):
                return name
        return None

    def outcome_in(self, order, request, moment=-1):
        name = self.decider_in(order, request, moment)
        return "none" if name is None else self.moments[moment][0][name][1]


def row_of(slots, name):
    return next(row for row in slots if name in row)


def ledger_of(record):
    """A ledger with the deeds of a record."""
    ledger = Ledger(Schema(record.fields), record.effects)
    for deed in record.deeds:
        ledger.apply(deed)
    return ledger


def drawn_condition(source, faults):
    return source.choice(REFUSED_CONDITIONS if source.random() < faults else CONDITIONS)


def drawn_request(source, record, faults):
    if source.random() < faults:
        return source.choice([(), ("admin",), ("admin", "x"), ("x", "y"), ("user", "a", "a"), ("a", "admin"), ("", "a")])
    return source.choice(record.requests)


def drawn_outcomes(source, record, faults):
    if source.random() < faults:
        return source.choice([(), ("x",), ("allow", "x", "y"), ("none", ""), ("y", "x"), ("any",)])
    known = record.effects + ["none"]
    return tuple(source.choice(known) for k in range(source.choice([1, 1, 1, 2, 2, 3])))


def drawn_command(source, record, faults=0.04, names=NAMES, most_slots=30):
    """A command of any kind; it may be refused for many reasons, more often with more faults."""
    present = sorted(record.moments[-1][0])
    words = ["rewrite", "above", "below", "swap", "observe", "observe", "observe", "compare", "compare", "drop"]
    if len(record.moments[-1][1]) < most_slots:
        words += ["add", "add", "add", "raise", "lower"]
    if len(present) < 2:
        words = ["add", "observe", "drop"] if len(record.moments[-1][1]) < most_slots else ["rewrite", "observe"]
    word = source.choice(words)
    if source.random() < faults:
        return source.choice([(), ("",), (word,), ("fly", "a"), (word, "a", "a", "any", "deny"), ("undo",), (word.upper(),)])
    some = names if not present or source.random() < faults else present
    name, other = source.choice(some), source.choice(some)
    if name == other and source.random() > faults:
        other = source.choice([kept for kept in some if kept != name] or some)
    if word == "add":
        fresh = [kept for kept in names if kept not in present]
        name = source.choice(fresh) if fresh and source.random() > faults else source.choice(names + ["", "A", "a1"])
    effect = source.choice(["none", "x", ""]) if source.random() < faults else source.choice(record.effects)
    if word in ("add", "rewrite"):
        return word, name, drawn_condition(source, faults), effect
    if word == "observe":
        return word, drawn_request(source, record, faults), drawn_outcomes(source, record, faults)
    return (word, name) if word in ("drop", "raise", "lower") else (word, name, other)
