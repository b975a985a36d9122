"""Layouts: which rules stand in which slots, and how the moves change this."""

from hiddenrank.errors import DuplicateName, SameRule, UnknownRule


def check_distinct(names):
    """Raises DuplicateName with the least one of some ascending names that occurs twice."""
    for name, following in zip(names, names[1:]):
        if name == following:
            raise DuplicateName(name)


class Layout:
    """The names in each slot, stronger ones first; it is never changed."""

    def __init__(self, slots=()):
        self.rows = tuple([tuple(row) for row in slots])
        check_distinct(self.names())

    def __eq__(self, other):
        return isinstance(other, Layout) and self.rows == other.rows

    def __len__(self):
        return len(self.rows)

    def __repr__(self):
        return f"Layout({len(self.rows)} slots, {len(self.names())} rules)"

    def slots(self):
        """Returns the list of the lists of names."""
        return [list(row) for row in self.rows]

    def names(self):
        """Returns the ascending list of all names."""
        return sorted([name for row in self.rows for name in row])

    def place_of(self, name):
        """Returns the pair of the slot of a rule and its index in the slot."""
        for slot, row in enumerate(self.rows):
            if name in row:
                return (slot, row.index(name))
        raise UnknownRule(name)

    def added(self, name):
        """Returns the layout with a name in a new slot."""
        # A name that is present is refused by the new layout, in which it is the only one that occurs twice.
        return Layout([*self.rows, [name]])

    def dropped(self, name):
        """Returns the layout without a name."""
        slot, index = self.place_of(name)
        rows = self.slots()
        rows[slot].pop(index)
        return Layout(rows)

    def moved(self, name):
        """Returns the layout in which a name stands alone in a new slot."""
        return self.dropped(name).added(name)

    def check_two(self, name, other):
        """Raises UnknownRule for one of two names, or SameRule if they are equal."""
        self.place_of(name)
        self.place_of(other)
        if name == other:
            raise SameRule(name)

    def beside(self, name, other, *, behind=False):
        """Returns the layout in which a name stands directly before another one, or directly behind it."""
        self.check_two(name, other)
        # The place of the other one is asked for after the name has left, which may have stood before it.
        rest = self.dropped(name)
        slot, index = rest.place_of(other)
        rows = rest.slots()
        rows[slot].insert(index + 1 if behind else index, name)
        return Layout(rows)

    def swapped(self, name, other):
        """Returns the layout in which two names have exchanged their places."""
        self.check_two(name, other)
        slot, index = self.place_of(name)
        other_slot, other_index = self.place_of(other)
        rows = self.slots()
        rows[slot][index] = other
        rows[other_slot][other_index] = name
        return Layout(rows)

    def speakers(self, some):
        """Returns the list of the pairs (slot, name) of the first name in each slot that is among some strings."""
        found = []
        for slot, row in enumerate(self.rows):
            speaking = [name for name in row if name in some]
            if len(speaking) > 0:
                found.append((slot, speaking[0]))
        return found
