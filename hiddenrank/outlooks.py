"""What the evidence of a ledger leaves possible, for rules of any moment."""

from hiddenrank.obstacles import obstacles_of, peel, takeable


class Outlook:
    """The possible orders of a present state. It is made for one query, which may ask for all requests."""

    def __init__(self, present_state):
        size, pairs, reports = present_state.problem()
        self.obstacles = obstacles_of(size, pairs, reports)
        # Many requests have the same slots, so the answers are kept by the slots.
        self.answers = {}

    def first_of(self, slots):
        """Returns the ascending list of those of some slots that come first of them in some possible order."""
        key = tuple(slots)
        if key not in self.answers:
            rounds, left = peel(self.obstacles, key)
            self.answers[key] = takeable(self.obstacles, left)
        return self.answers[key]

    def deciders_of(self, state, number):
        """Returns the list of the names of the rules of a state that may decide the request with a number."""
        speakers = dict(state.speakers(number))
        return [speakers[slot] for slot in self.first_of(list(speakers))]

    def outcomes_of(self, state, number):
        """Returns the list of the possible outcomes, under the rules of a state, of the request with a number."""
        found = [state.known[name].effect for name in self.deciders_of(state, number)]
        if len(found) == 0:
            return ["none"]
        return [kind for kind in state.kinds if kind in found]
