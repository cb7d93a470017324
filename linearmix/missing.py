"""The least shape that none of some patterns take (point 24)."""

from linearmix.patterns import first_seen
from linearmix.shapekinds import SOME, TRUTHS, ShapeKinds, by_uppers

WILD = ("any",)


def is_wild(pattern):
    """Whether a pattern takes everything by its form."""
    return pattern[0] in ("any", "bind")


class Search:
    """Looks for the least shapes of several kinds at once that no row of patterns takes.

    Rows have one pattern for each kind. What is told is how many parts the shapes
    have, and the shapes; that is what is least.
    """

    def __init__(self, scope, makers):
        self.kinds = ShapeKinds(scope, makers)
        self.model = scope.model
        self.known = {}

    def whole(self, kind, patterns):
        """The least shape of a kind that none of some patterns take; None if there is none."""
        kind = by_uppers(self.kinds.scope, kind)
        if not self.kinds.is_closed(kind):
            return None if any([self.takes_all(pattern, kind) for pattern in patterns]) else SOME
        rows = tuple([(pattern,) for pattern in patterns])
        told = least_of([self.by_head(head, (kind,), rows) for head in self.heads(kind)])
        return None if told is None else told[1][0]

    def heads(self, kind):
        """What the shapes of a closed kind can begin with: literals, or classes by their names."""
        if kind == ("truth",):
            return list(TRUTHS)
        return [("of", name) for name in self.kinds.classes(kind)]

    def least(self, kinds, rows):
        """The least shapes for kinds that no row takes; None if there are none such."""
        wild = 0
        while wild < len(kinds) and all([is_wild(row[wild]) for row in rows]):
            wild += 1
        if wild == len(kinds) and rows:
            return None
        firsts = tuple([self.least_one(kind) for kind in kinds[:wild]])
        if wild == len(kinds):
            return (wild, firsts)
        told = self.least_here(kinds[wild:], tuple([row[wild:] for row in rows]))
        return None if told is None else (told[0] + wild, firsts + told[1])

    def least_here(self, kinds, rows):
        """The same, where the first patterns are not all wild."""
        key = repr((kinds, rows))
        if key not in self.known:
            heads = [SOME]
            if self.kinds.is_closed(kinds[0]):
                heads = heads + self.heads(kinds[0])
            self.known[key] = least_of([self.by_head(head, kinds, rows) for head in heads])
        return self.known[key]

    def by_head(self, head, kinds, rows):
        """The least shapes of which the first begins so."""
        fields = self.kinds.fields(kinds[0], head[1]) if head[0] == "of" else []
        inner = []
        for row in rows:
            patterns = self.within(head, kinds[0], row[0], len(fields))
            if patterns is not None and patterns + row[1:] not in inner:
                inner.append(patterns + row[1:])
        told = self.least(tuple(fields) + kinds[1:], tuple(inner))
        if told is None:
            return None
        shape = head if head[0] != "of" else ("of", head[1], told[1][:len(fields)])
        return (told[0] + 1, (shape,) + told[1][len(fields):])

    def within(self, head, kind, pattern, many):
        """The patterns for what stands within a head that a pattern may take; None if it takes none."""
        if is_wild(pattern):
            return (WILD,) * many
        if head == SOME:
            return () if self.meets_some(pattern, kind) else None
        if pattern[0] == "lit":
            return () if pattern == head else None
        name = pattern[2] if pattern[0] == "is" else pattern[1]
        if head[0] == "lit" or name not in self.model.order(head[1]):
            return None
        if pattern[0] == "of" and name == head[1]:
            return pattern[2]
        return (WILD,) * many

    def meets_some(self, pattern, kind):
        """Whether a pattern takes what some of a kind stands for: all values, or the further ones."""
        return self.takes_any(pattern, kind) if self.kinds.is_closed(kind) else self.takes_all(pattern, kind)

    def takes_any(self, pattern, kind):
        """Whether a pattern that is let for a kind takes some value of it."""
        if is_wild(pattern) or not self.kinds.is_closed(kind):
            return True
        for head in self.heads(kind):
            fields = self.kinds.fields(kind, head[1]) if head[0] == "of" else []
            patterns = self.within(head, kind, pattern, len(fields))
            if patterns is not None and all([self.takes_any(one, field)
                                             for one, field in zip(patterns, fields)]):
                return True
        return False

    def takes_all(self, pattern, kind):
        """Whether a pattern takes all values of a kind, of those further ones that are thought of."""
        if is_wild(pattern):
            return True
        if pattern[0] == "lit":
            return False
        name = pattern[2] if pattern[0] == "is" else pattern[1]
        if first_seen(self.model, kind, name) is None:
            return False
        if pattern[0] == "is":
            return True
        return all([self.takes_all(inner, by_uppers(self.kinds.scope, field))
                    for inner, field in zip(pattern[2], self.kinds.fields(kind, name))])

    def least_one(self, kind):
        """The least shape of a kind, where nothing need be said."""
        if kind == ("truth",):
            return TRUTHS[0]
        if self.kinds.is_sealed(kind):
            for name in self.kinds.classes(kind):
                if not self.model.classes[name].vparams:
                    return ("of", name, ())
        return SOME


def least_of(rows):
    """The least of some; None if there is none."""
    told = [row for row in rows if row is not None]
    return min(told) if told else None


def missing_shape(scope, makers, kind, patterns):
    """The least shape of a kind that none of some patterns take; None if there is none."""
    return Search(scope, makers).whole(kind, patterns)
