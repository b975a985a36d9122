"""States: the rules in their slots and the recorded evidence after some deeds."""

from hiddenrank.layouts import Layout


class Rule:
    """A condition and an effect; it is never changed."""

    def __init__(self, text, effect, matched):
        self.text = text
        self.effect = effect
        # For each request, in the order of the numbers, whether the condition matches it.
        self.matched = tuple(matched)


class State:
    """What stands and what is recorded at one moment; it is never changed, so moments and clones can share it."""

    def __init__(self, frame, kinds):
        self.frame = frame
        self.kinds = tuple(kinds)
        self.places = Layout()
        self.known = {}
        self.pairs = ()
        self.reports = ()

    def changed(self, *, places=None, known=None, pairs=(), reports=()):
        """Returns the state with another layout or other rules, and with these pairs and reports appended."""
        after = State(self.frame, self.kinds)
        after.places = self.places if places is None else places
        after.known = self.known if known is None else known
        after.pairs = self.pairs + pairs
        after.reports = self.reports + reports
        return after

    def problem(self):
        """Returns the tuple of the number of slots, the list of the pairs and the list of the reports."""
        return (len(self.places), list(self.pairs), list(self.reports))

    def speakers(self, number):
        """Returns the list of the pairs (slot, name) of the speakers of the request with a number."""
        return self.places.speakers([name for name in self.known if self.known[name].matched[number]])

    def report_of(self, number, allowed):
        """Returns the report that the outcome of a request is an allowed one; it has no slots if no rule matches."""
        speakers = self.speakers(number)
        slots = [slot for slot, name in speakers]
        good = [slot for slot, name in speakers if self.known[name].effect in allowed]
        return (tuple(slots), tuple(good))


def recorded_between(before, after):
    """Returns the list of the reasons that name the pairs and reports which only the later one of two states has."""
    pairs = [("pair", place) for place in range(len(before.pairs), len(after.pairs))]
    reports = [("report", place) for place in range(len(before.reports), len(after.reports))]
    return pairs + reports
