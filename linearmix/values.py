"""The values that are thought of where patterns are held against a kind (point 24).

A value is told by its head: a literal, or a thing with an order of classes and, where
that is known, a kind of its own; what stands in its vparams is thought of by itself.
"""

from linearmix.insides import patterns_in
from linearmix.lower import is_lower
from linearmix.makers import may_be_of, new_meets
from linearmix.shapekinds import TRUTHS, ShapeKinds

# One of which nothing is known.
FURTHER = ("thing", (), None)


def literals_of(patterns):
    """The literals that stand in patterns."""
    return [one[1] for pattern in patterns for one in patterns_in(pattern) if one[0] == "lit"]


def class_asked(pattern):
    """The class that a pattern asks for; None if it asks for none."""
    if pattern[0] == "is":
        return pattern[2]
    return pattern[1] if pattern[0] == "of" else None


class Values:
    """The heads of the values of kinds, for some literals."""

    def __init__(self, scope, makers, literals):
        self.kinds = ShapeKinds(scope, makers)
        self.scope = scope
        self.model = scope.model
        self.makers = makers
        self.literals = literals
        self.known = {}

    def heads(self, kind):
        """The heads of the values of a kind, each once; there is one at least."""
        key = repr(kind)
        if key not in self.known:
            found = []
            for head in self.all_heads(kind):
                if head not in found:
                    found.append(head)
            self.known[key] = found if found else [FURTHER]
        return self.known[key]

    def all_heads(self, kind):
        """The heads of the values of a kind."""
        if kind == ("truth",):
            return list(TRUTHS)
        if self.kinds.is_sealed(kind):
            names = self.kinds.classes(kind)
            return [self.class_head(kind, name) for name in names] + self.new_heads(kind, names)
        found = [("lit", literal) for literal in self.literals if is_lower(self.scope, (literal[0],), kind)]
        found.append(("thing", self.order_of_kind(kind), kind if kind[0] == "of" else None))
        if kind in (("int",), ("text",)):
            return found
        found.extend(self.new_heads(kind, None))
        return found + self.open_heads(kind)

    def open_heads(self, kind):
        """The heads of the values of a kind that are of just a class, or right below it alone."""
        found = []
        above = self.order_of_kind(kind)
        for name in self.model.classes:
            is_below = may_be_of(self.scope, name, kind)
            if is_below and name in self.makers.names:
                found.append(self.class_head(kind, name))
            # One right below what stands above the kind is a further one of just the kind.
            if self.is_open(name) and name not in above and self.makers.can_meet(self.scope, kind, name):
                found.append(self.class_head(kind, name) if is_below else self.meeting_head(kind, name))
        return found

    def is_open(self, name):
        """Whether further things may stand right below a class or trait."""
        return not self.model.is_object(name) and not self.model.is_below_sealed(name)

    def class_head(self, kind, name):
        """The head of the values of just a class, or right below it, that are of a kind."""
        return ("thing", self.model.order(name), self.kinds.own_kind(kind, name))

    def meeting_head(self, kind, name):
        """The head of the values of a kind right below a class that is not below the kind by itself."""
        order = self.model.order(name) + self.order_of_kind(kind)
        return ("thing", order, ("with", (self.kinds.own_kind(kind, name), kind)))

    def new_heads(self, kind, firsts):
        """The heads of the news that may be of a kind, with first parts of some classes, or of all."""
        return [("thing", self.model.mixed_order(list(names)), None) for names in self.makers.news
                if (firsts is None or names[0] in firsts) and new_meets(self.scope, names, kind)]

    def order_of_kind(self, kind):
        """The classes of a further value of just a kind."""
        if kind[0] == "of":
            return self.model.order(kind[1])
        if kind[0] == "with":
            return tuple([name for part in kind[1] for name in self.order_of_kind(part)])
        return ()

    def fields(self, kind, head, name):
        """The kinds of the vparams of a class in values with a head, which are of a kind."""
        return self.kinds.fields(kind if head[2] is None else head[2], name)

    def takes(self, pattern, head):
        """Whether a pattern, what stands within it left aside, takes values with a head."""
        if pattern[0] in ("any", "bind"):
            return True
        if pattern[0] == "lit":
            return head == pattern
        return head[0] == "thing" and class_asked(pattern) in head[1]
