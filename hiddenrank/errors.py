"""The errors of the package. The word of an error is the name of its class in lowercase letters."""


class RankError(ValueError):
    """Something is of a wrong form, beyond a limit, or refused."""


class InvalidName(RankError):
    """A string is not a name, or is a name that may not stand there."""

    def __init__(self, name):
        self.name = name
        self.word = "invalidname"


class InvalidValue(RankError):
    """A string is not a value."""

    def __init__(self, value):
        self.value = value
        self.word = "invalidvalue"


class DuplicateName(RankError):
    """A name or a value occurs twice where each may occur once."""

    def __init__(self, name):
        self.name = name
        self.word = "duplicatename"


class LimitReached(RankError):
    """Something would go beyond one of the documented limits."""

    def __init__(self, limit):
        self.limit = limit
        self.word = "limitreached"


class InvalidRequest(RankError):
    """A tuple is not a request; position -1 stands for a wrong length."""

    def __init__(self, position):
        self.position = position
        self.word = "invalidrequest"


class InvalidNumber(RankError):
    """An integer is not the number of a request."""

    def __init__(self, number):
        self.number = number
        self.word = "invalidnumber"


class InvalidCondition(RankError):
    """A text is not the text of a condition."""

    def __init__(self, position):
        self.position = position
        self.word = "invalidcondition"


class InvalidPair(RankError):
    """A pair of a problem does not name two distinct slots."""

    def __init__(self, place):
        self.place = place
        self.word = "invalidpair"


class InvalidReport(RankError):
    """A report of a problem is not a report."""

    def __init__(self, place):
        self.place = place
        self.word = "invalidreport"


class InvalidSlot(RankError):
    """An integer is not a slot, or may not stand there; -1 stands for an empty list."""

    def __init__(self, slot):
        self.slot = slot
        self.word = "invalidslot"


class NotADeadlock(RankError):
    """A pair of slots and reasons is not a deadlock."""

    def __init__(self):
        self.word = "notadeadlock"


class InvalidOutcomes(RankError):
    """An observation allows no outcome."""

    def __init__(self):
        self.word = "invalidoutcomes"


class NothingMatches(RankError):
    """No rule matches the observed request, but an effect was observed."""

    def __init__(self, number):
        self.number = number
        self.word = "nothingmatches"


class SameRule(RankError):
    """A rule is put in relation to itself."""

    def __init__(self, name):
        self.name = name
        self.word = "samerule"


class KnownOrder(RankError):
    """A comparison denies the order of two rules of one slot."""

    def __init__(self, name, other):
        self.name = name
        self.other = other
        self.word = "knownorder"


class Contradiction(RankError):
    """Evidence would leave no possible order."""

    def __init__(self, deadlock):
        self.deadlock = deadlock
        self.word = "contradiction"


class InvalidMoment(RankError):
    """An integer is not a moment of the ledger."""

    def __init__(self, moment):
        self.moment = moment
        self.word = "invalidmoment"


class InvalidCommand(RankError):
    """A tuple is not a command."""

    def __init__(self):
        self.word = "invalidcommand"


class BatchFailed(RankError):
    """A command of a batch was refused; the reason is the word of its error."""

    def __init__(self, position, reason):
        self.position = position
        self.reason = reason
        self.word = "batchfailed"


class InvalidText(RankError):
    """A text is not the text of a command."""

    def __init__(self):
        self.word = "invalidtext"


class InvalidFile(RankError):
    """A text is not the text of a ledger."""

    def __init__(self, line):
        self.line = line
        self.word = "invalidfile"


class NotFound(LookupError):
    """Something that a call names does not exist."""


class UnknownField(NotFound):
    """The schema has no field of this name."""

    def __init__(self, name):
        self.name = name
        self.word = "unknownfield"


class UnknownValue(NotFound):
    """The field does not have this value."""

    def __init__(self, value):
        self.value = value
        self.word = "unknownvalue"


class UnknownEffect(NotFound):
    """The ledger has no effect of this name."""

    def __init__(self, name):
        self.name = name
        self.word = "unknowneffect"


class UnknownRule(NotFound):
    """There is no rule of this name."""

    def __init__(self, name):
        self.name = name
        self.word = "unknownrule"


class NothingLeft(NotFound):
    """No step is left to undo or to redo."""

    def __init__(self):
        self.word = "nothingleft"
