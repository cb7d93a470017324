"""Kind parameters that are to be chosen, by holding kinds against each other (point 20)."""

from linearmix.kindtools import ANY, NONE, changed, has_open
from linearmix.lower import argument_pairs, asks, first_bottom, first_top, is_lower, is_same
from linearmix.parting import plain, upper_of

# What stands ahead of the names of kind parameters that are to be chosen.
FREE = "#"


def freed(kparams, mark):
    """A table of kind parameters by their names, with a mark ahead, as kinds."""
    return {kparam[0]: ("var", mark + kparam[0]) for kparam in kparams}


def noted_both_ways(notes):
    """The kinds that are noted both ways at once, or above by one note and below by another."""
    above = [kind for way, kind in notes if way != "below"]
    below = [kind for way, kind in notes if way != "above"]
    return [kind for _, kind in notes if kind in above and kind in below]


class Choice:
    """Kind parameters that are to be chosen, and what is noted of them.

    The kparams are pairs of a name, not used otherwise, and an upper.
    """

    def __init__(self, scope, kparams):
        self.kparams = kparams
        self.free = {name: True for name, _ in kparams}
        for name, upper in kparams:
            scope = scope.with_upper(name, upper)
        self.scope = scope
        self.notes = {name: [] for name, _ in kparams}

    def holds(self, one, other):
        """Whether a kind may be below another one; notes what that needs."""
        return self.asks(plain(self.scope, one), plain(self.scope, other), ())

    def asks(self, one, other, asked):
        """The same of plain kinds; asked: the left ones that were gone by their uppers."""
        if other[0] == "var" and other[1] in self.free:
            self.notes[other[1]].append(("above", one))
            return True
        if one[0] == "var" and one[1] in self.free:
            self.notes[one[1]].append(("below", other))
            return True
        if not has_open(one, self.free) and not has_open(other, self.free):
            return asks(self.scope, one, other, ())
        if other == ANY or one == NONE:
            return True
        if other[0] == "with":
            return self.asks_all([(one, part) for part in other[1]])
        if one[0] == "with":
            part = self.part_of_shape(one, other)
            return part is not None and self.asks(part, other, ())
        if one[0] == "fun" and other[0] == "fun" and len(one[1]) == len(other[1]):
            pairs = [(second, first) for first, second in zip(one[1], other[1])]
            return self.asks_all(pairs + [(one[2], other[2])])
        if one[0] == "of" and other[0] == "of":
            return self.asks_arguments(one, other)
        upper = upper_of(self.scope, one)
        if upper is None or one in asked:
            return False
        return self.asks(plain(self.scope, upper), other, asked + (one,))

    def asks_all(self, pairs):
        """Whether each pair holds, as far as one does not."""
        for one, other in pairs:
            if not self.asks(one, other, ()):
                return False
        return True

    def asks_arguments(self, one, other):
        """The same of two kinds of classes; what a "" asks of one alone is noted both ways."""
        view = self.scope.model.seen(one, other[1])
        if view is None:
            return False
        kparams = self.scope.model.classes[other[1]].kparams
        for kparam, first, second in zip(kparams, view[2], other[2]):
            if kparam[1] == "" and self.notes_both(first, second):
                continue
            if not self.asks_all(argument_pairs([kparam], [first], [second])):
                return False
        return True

    def notes_both(self, one, other):
        """Notes a kind both ways, if one of two is a kind parameter that is to be chosen."""
        for first, second in ((other, one), (one, other)):
            if first[0] == "var" and first[1] in self.free:
                self.notes[first[1]].append(("both", second))
                return True
        return False

    def part_of_shape(self, one, other):
        """The first part of a with that is of the other one's shape; None if there is none."""
        for part in one[1]:
            if part[0] == "with":
                part = self.part_of_shape(part, other)
            if part is not None and self.is_of_shape(part, other):
                return part
        return None

    def is_of_shape(self, one, other):
        """Whether both are of classes, the other one above, or funs of as many kinds."""
        if one[0] == "of" and other[0] == "of":
            return self.scope.model.seen(one, other[1]) is not None
        return one[0] == "fun" and other[0] == "fun" and len(one[1]) == len(other[1])

    def is_noted(self):
        """Whether something is noted of each."""
        return all([self.notes[name] for name, _ in self.kparams])

    def note_result(self, result, wanted):
        """Notes, of those without a note, what a result needs to be below a wanted kind."""
        other = Choice(self.scope, self.kparams)
        if other.holds(result, wanted):
            for name, _ in self.kparams:
                if not self.notes[name]:
                    self.notes[name] = other.notes[name]

    def chosen(self):
        """("chosen", kinds) by the notes, or (word, name) of the one at which it fails."""
        table = {}
        for name, _ in self.kparams:
            table[name] = self.one_chosen(name)
            if table[name] is None:
                return ("none found", name)
        for name, _ in self.kparams:
            if not self.notes_hold(name, table[name]):
                return ("none found", name)
        for name, upper in self.kparams:
            if not is_lower(self.scope, table[name], changed(upper, table, {})):
                return ("upper", name)
        return ("chosen", tuple([table[name] for name, _ in self.kparams]))

    def one_chosen(self, name):
        """The kind for one by its notes; None where they do not agree."""
        notes = self.notes[name]
        both = noted_both_ways(notes)
        if both:
            same = all([is_same(self.scope, both[0], kind) for kind in both])
            return both[0] if same else None
        above = [kind for way, kind in notes if way == "above"]
        if above:
            return first_top(self.scope, above)
        below = [kind for way, kind in notes if way == "below"]
        return first_bottom(self.scope, below) if below else NONE

    def notes_hold(self, name, kind):
        """Whether a kind is as all notes of a kind parameter have it."""
        for way, other in self.notes[name]:
            if way != "below" and not is_lower(self.scope, other, kind):
                return False
            if way != "above" and not is_lower(self.scope, kind, other):
                return False
        return True
