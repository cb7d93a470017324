"""What is known on a way through a decision tree: the values that can have come there.

A place is a tuple of (class, number of a vparam), from the outermost; () is what is matched.
"""

from linearmix.values import class_asked


class State:
    """The heads that values at places can have, and the class asked for last at each."""

    def __init__(self, thought, kind):
        self.thought = thought
        self.kind = kind
        self.left = {}
        self.current = {}
        self.asked = {}

    def copied(self):
        """The same, to be changed by its maker."""
        other = State(self.thought, self.kind)
        other.left = {place: self.left[place] for place in self.left}
        other.current = {place: self.current[place] for place in self.current}
        other.asked = {place: self.asked[place] for place in self.asked}
        return other

    def kind_at(self, place):
        """The kind of what stands at a place."""
        kind = self.kind
        for name, number in place:
            kind = self.thought.kinds.fields(kind, name)[number]
        return kind

    def heads(self, place):
        """The heads that values at a place can have."""
        if place not in self.left:
            return self.thought.heads(self.kind_at(place))
        return self.left[place]

    def is_empty(self):
        """Whether no value comes here."""
        return any([not heads for heads in self.left.values()])

    def parted(self, place, pattern):
        """The states for values that a pattern, what stands in it left aside, takes, and for others."""
        yes, no = self.copied(), self.copied()
        heads = self.heads(place)
        yes.left[place] = [head for head in heads if self.thought.takes(pattern, head)]
        no.left[place] = [head for head in heads if not self.thought.takes(pattern, head)]
        name = class_asked(pattern)
        if name is not None:
            yes.current[place] = name
            yes.asked[place] = self.asked.get(place, ()) + (name,)
            no.asked[place] = yes.asked[place]
        return yes, no

    def inner_places(self, place, pattern):
        """The patterns within an "of", each with the place that it is for."""
        return [(place + ((pattern[1], at),), inner) for at, inner in enumerate(pattern[2])]

    def takes_some(self, pattern, place):
        """Whether a pattern for a place takes some value."""
        if not any([self.thought.takes(pattern, head) for head in self.heads(place)]):
            return False
        return pattern[0] != "of" or all([self.takes_some(inner, one)
                                          for one, inner in self.inner_places(place, pattern)])

    def takes_all(self, pattern, place):
        """Whether a pattern for a place takes all values."""
        if not all([self.thought.takes(pattern, head) for head in self.heads(place)]):
            return False
        return pattern[0] != "of" or all([self.takes_all(inner, one)
                                          for one, inner in self.inner_places(place, pattern)])
