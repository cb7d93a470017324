"""Which patterns take nothing that those ahead do not take (point 24)."""

from linearmix.missing import WILD, Search, is_wild
from linearmix.values import Values, literals_of

# A further value that only patterns take that take all.
STAR = ("star",)


class Usefulness:
    """Looks whether a row of patterns takes values, several at once, that no other row takes."""

    def __init__(self, scope, makers, patterns):
        self.thought = Values(scope, makers, literals_of(patterns))
        self.search = Search(scope, makers)
        self.known = {}

    def is_useful(self, kinds, rows, row):
        """Whether a row takes values of kinds that no one of rows takes."""
        asked = [at for at in range(len(kinds)) if not all([is_wild(one[at]) for one in rows + (row,)])]
        if not rows or not asked:
            return not rows
        kinds = tuple([kinds[at] for at in asked])
        rows = tuple([tuple([one[at] for at in asked]) for one in rows])
        row = tuple([row[at] for at in asked])
        key = repr((kinds, rows, row))
        if key not in self.known:
            heads = list(self.thought.heads(kinds[0]))
            if not self.thought.kinds.is_closed(kinds[0]):
                heads.append(STAR)
            self.known[key] = self.by_heads(heads, (kinds, rows, row))
        return self.known[key]

    def by_heads(self, heads, asked):
        """The same with one of some heads for the first value."""
        kinds, rows, row = asked
        for head in heads:
            names = self.classes_asked(head, (row,) + rows)
            fields = [field for name in names for field in self.thought.fields(kinds[0], head, name)]
            own = self.within(head, kinds[0], row, names)
            if own is None:
                continue
            others = [self.within(head, kinds[0], one, names) for one in rows]
            inner = tuple([one for one in others if one is not None])
            if self.is_useful(tuple(fields) + kinds[1:], inner, own):
                return True
        return False

    def classes_asked(self, head, rows):
        """The classes whose vparams the first patterns of rows ask of a value with a head."""
        names = []
        for row in rows:
            if row[0][0] == "of" and head[0] == "thing" and row[0][1] in head[1] and row[0][1] not in names:
                names.append(row[0][1])
        return names

    def within(self, head, kind, row, names):
        """A row for what stands in a value with a head, and for the rest; None if it takes none."""
        pattern = row[0]
        if head == STAR:
            return row[1:] if self.search.takes_all(pattern, kind) else None
        if not self.thought.takes(pattern, head):
            return None
        inner = ()
        for name in names:
            many = len(self.thought.model.classes[name].vparams)
            is_own = pattern[0] == "of" and pattern[1] == name
            inner = inner + (pattern[2] if is_own else (WILD,) * many)
        return inner + row[1:]


def useless_ones(scope, makers, kind, patterns):
    """The ascending indexes of the patterns that take nothing that those ahead do not take."""
    told = Usefulness(scope, makers, patterns)
    return [at for at, pattern in enumerate(patterns)
            if not told.is_useful((kind,), tuple([(one,) for one in patterns[:at]]), (pattern,))]
