"""What is in reach at a place: kind parameters, this, names, and givens.

Within the package each name that is brought into reach has an inner name, so
that nothing hides another one: where the plain name is taken, by an object or
by a name further out, the inner one has a `~` and a number behind it. Inner
names that begin with `~` stand for what has no name: an object that is no path.
"""

from linearmix.kindtools import all_kinds, changed, starts_in


class Binding:
    """What a name stands for: how it does (value, byname, lazy or unknown), and its kind."""

    def __init__(self, how, kind):
        self.how = how
        self.kind = kind


class Scope:
    """What is in reach at one place; it is not changed, but copied with more."""

    def __init__(self, model, place):
        self.model = model
        self.place = place
        self.uppers = {}
        self.this = None
        self.reach = {}
        self.bound = {}
        self.lets = ()
        self.wants = ()

    def copied(self):
        """The same, to be changed by its maker."""
        other = Scope(self.model, self.place)
        other.uppers = dict(self.uppers)
        other.this = self.this
        other.reach = dict(self.reach)
        other.bound = dict(self.bound)
        other.lets = self.lets
        other.wants = self.wants
        return other

    def at_place(self, place):
        """The same for another place."""
        other = self.copied()
        other.place = place
        return other

    def with_model(self, model):
        """The same with another model."""
        other = self.copied()
        other.model = model
        return other

    def with_this(self, kind):
        """The same with a this of a kind, or none."""
        other = self.copied()
        other.this = kind
        return other

    def with_upper(self, name, kind):
        """The same with a kind parameter."""
        other = self.copied()
        other.uppers[name] = kind
        return other

    def without_names(self):
        """The same without names, but for objects."""
        other = self.copied()
        other.reach = {}
        return other

    def with_phantom(self, inner, kind):
        """The same with something that only inner paths lead to."""
        other = self.copied()
        other.bound[inner] = Binding("value", kind)
        return other

    def with_name(self, name, how, kind):
        """The same with a name; how is told in Binding."""
        other = self.copied()
        inner = name
        if name in self.bound or self.model.is_object(name):
            inner = name + "~" + str(len(self.bound))
        other.reach[name] = inner
        other.bound[inner] = Binding(how, kind)
        return other

    def with_let_given(self, name):
        """The same where a name that was just brought is a given of a let."""
        other = self.copied()
        other.lets = self.lets + ((name, self.reach[name]),)
        return other

    def with_wants(self, names):
        """The same with names that are wants of what is around."""
        other = self.copied()
        other.wants = tuple([(name, self.reach[name]) for name in names])
        return other

    def has_start(self, start):
        """Whether a path may begin with a name, or something of that name is in reach."""
        if start == "this":
            return self.this is not None
        return start in self.reach or self.model.is_object(start)

    def inward(self, kind):
        """A kind that is written here, with inner names."""
        return changed(kind, {}, {name: (inner,) for name, inner in self.reach.items()})

    def hides(self, kind):
        """Whether a kind, with inner names, names what is not in reach here by its name."""
        return any([not self.shows(start) for start in starts_in(kind)])

    def shows(self, start):
        """Whether an inner name is what its plain name means here."""
        if start == "this":
            return True
        name = plain_name(start)
        if name in self.reach:
            return self.reach[name] == start
        return self.model.is_object(start)


def plain_name(inner):
    """The name of which another one is the inner name; "" if of none."""
    return inner.partition("~")[0]


def outward(kind):
    """A kind with the names that its inner names stand for."""
    starts = [one[1][0] for one in all_kinds(kind) if one[0] == "part"]
    return changed(kind, {}, {start: (plain_name(start),) for start in starts
                              if not start.startswith("~")})
