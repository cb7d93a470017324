"""What is known on a way through a decision tree: the values that can have come there.

A place is a tuple of (class, number of a vparam), from the outermost; () is what is
matched. A spot is a place with the kind of what stands there.
"""

from linearmix.values import class_asked


class State:
    """The heads that values at places can have, and the class asked for last at each."""

    def __init__(self, thought):
        self.thought = thought
        self.left = {}
        self.current = {}
        self.asked = {}

    def copied(self):
        """The same, to be changed by its maker."""
        other = State(self.thought)
        other.left = {place: self.left[place] for place in self.left}
        other.current = {place: self.current[place] for place in self.current}
        other.asked = {place: self.asked[place] for place in self.asked}
        return other

    def heads(self, spot):
        """The heads that values at a spot can have."""
        place, kind = spot
        return self.left[place] if place in self.left else self.thought.heads(kind)

    def is_empty(self):
        """Whether no value comes here."""
        return any([not heads for heads in self.left.values()])

    def parted(self, spot, pattern):
        """The states for values that a pattern, what stands in it left aside, takes, and for others."""
        place = spot[0]
        yes, no = self.copied(), self.copied()
        heads = self.heads(spot)
        yes.left[place] = [head for head in heads if self.thought.takes(pattern, head)]
        no.left[place] = [head for head in heads if not self.thought.takes(pattern, head)]
        name = class_asked(pattern)
        if name is not None:
            yes.current[place] = name
            yes.asked[place] = self.asked.get(place, ()) + (name,)
            no.asked[place] = yes.asked[place]
        return yes, no

    def fields(self, spot, name):
        """The kinds of the vparams of a class at a spot: as all values there have them, else by its kind."""
        place, kind = spot
        told = []
        for head in self.heads(spot):
            if head[0] == "thing" and name in head[1]:
                kinds = self.thought.fields(kind, head, name)
                if kinds not in told:
                    told.append(kinds)
        return told[0] if len(told) == 1 else self.thought.kinds.fields(kind, name)

    def inner_spot(self, spot, name, number):
        """The spot of a vparam of a class."""
        return (spot[0] + ((name, number),), self.fields(spot, name)[number])

    def inner_rows(self, spot, pattern):
        """The patterns within an "of", each with the spot that it is for."""
        return [(self.inner_spot(spot, pattern[1], at), inner) for at, inner in enumerate(pattern[2])]

    def takes_some(self, pattern, spot):
        """Whether a pattern for a spot takes some value."""
        if not any([self.thought.takes(pattern, head) for head in self.heads(spot)]):
            return False
        return pattern[0] != "of" or all([self.takes_some(inner, one)
                                          for one, inner in self.inner_rows(spot, pattern)])

    def takes_all(self, pattern, spot):
        """Whether a pattern for a spot takes all values."""
        if not all([self.thought.takes(pattern, head) for head in self.heads(spot)]):
            return False
        return pattern[0] != "of" or all([self.takes_all(inner, one)
                                          for one, inner in self.inner_rows(spot, pattern)])
