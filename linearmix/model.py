"""A program as it is looked up: its classes, their orders, and what they are seen as."""

from linearmix.kindtools import changed, table_of, vars_of

CLASS_WORDS = ("trait", "class", "object")

# More kinds than these as which one class sees another one are not looked at.
VIEWS_MOST = 30

# The name of the class that parts of a new are looked at as.
NAMELESS = "~new"


class Entry:
    """A class, trait or object of a program."""

    def __init__(self, definition):
        self.word = definition[0]
        self.name = definition[1]
        is_object = self.word == "object"
        self.kparams = () if is_object else definition[2]
        self.vparams = definition[3] if self.word == "class" else ()
        self.parents = definition[-2] if is_object else definition[-3]
        self.members = definition[-1] if is_object else definition[-2]
        self.is_sealed = False if is_object else definition[-1]
        self.table = {name: ("vparam", name, kind) for name, kind in self.vparams}
        for member in self.members:
            self.table[member[1]] = member


def form_of(member):
    """The form that is told of a member."""
    return "val" if member[0] == "vparam" else member[0]


def has_body(member):
    """Whether a member has a body; vparams, lazies and givens always have one."""
    if member[0] in ("kind", "val"):
        return member[3] is not None
    return member[0] != "def" or member[6] is not None


def merged_views(views, outer, table):
    """Lists of kind arguments, and further ones with what a table puts in, none twice."""
    told = list(views)
    for inner in outer:
        view = tuple([changed(kind, table, {}) for kind in inner])
        if view not in told and len(told) < VIEWS_MOST:
            told.append(view)
    return told


def joined(orders):
    """Orders of parents behind one another, from the last, each name at its last place."""
    kept = []
    for name in [name for order in orders for name in reversed(list(order))]:
        if name not in kept:
            kept.append(name)
    return tuple(list(reversed(list(kept))))


class Model:
    """The definitions of a program, and what follows from them alone."""

    def __init__(self, program):
        self.definitions = program[0]
        self.main = program[1]
        self.classes = {}
        for definition in self.definitions:
            if definition[0] in CLASS_WORDS:
                self.classes[definition[1]] = Entry(definition)
        self.orders = {}
        self.views = {}

    def with_nameless(self, parents):
        """The same with a class of these parents, as which parts are looked at."""
        other = Model((self.definitions, self.main))
        other.classes[NAMELESS] = Entry(("class", NAMELESS, (), (), parents, (), False))
        return other

    def is_object(self, name):
        """Whether a name is that of an object."""
        return name in self.classes and self.classes[name].word == "object"

    def parents_of(self, name):
        """The parents of a class that stand in the program."""
        return [one for one in self.classes[name].parents if one[0] in self.classes]

    def above(self, name):
        """The names of all classes above one, itself only if it is above itself."""
        found = []
        rest = [one[0] for one in self.parents_of(name)]
        while rest:
            other = rest.pop(0)
            if other not in found:
                found.append(other)
                rest.extend([one[0] for one in self.parents_of(other)])
        return found

    def has_round(self, name):
        """Whether a class, or one above it, is above itself."""
        return any([one in self.above(one) for one in [name] + self.above(name)])

    def order(self, name):
        """The order of a class; in some sequence, where a class is above itself."""
        if name not in self.orders:
            if self.has_round(name):
                rest = [one for one in self.above(name) if one != name]
            else:
                rest = joined([self.order(one[0]) for one in self.parents_of(name)])
            self.orders[name] = (name,) + tuple(rest)
        return self.orders[name]

    def all_views(self, name):
        """For each class of an order the lists of kind arguments as which it is seen."""
        if name not in self.views:
            views = {name: [vars_of(self.classes[name].kparams)]}
            parents = [] if self.has_round(name) else self.parents_of(name)
            for parent, kinds, _ in parents:
                table = table_of(self.classes[parent].kparams, kinds)
                outer = self.all_views(parent)
                for above in list(outer):
                    views[above] = merged_views(views.get(above, []), outer[above], table)
            self.views[name] = views
        return self.views[name]

    def seen(self, kind, name):
        """A kind of a class as it is seen from one of its order; None if it is none."""
        views = self.all_views(kind[1])
        if name not in views:
            return None
        table = table_of(self.classes[kind[1]].kparams, kind[2])
        return ("of", name, tuple([changed(one, table, {}) for one in views[name][0]]))

    def own_kind(self, name):
        """The kind of this in a class."""
        return ("of", name, vars_of(self.classes[name].kparams))

    def first_with(self, name, member):
        """The first class of an order that has a member, and it; None if there is none."""
        for one in self.order(name):
            if member in self.classes[one].table:
                return (one, self.classes[one].table[member])
        return None

    def first_body(self, order, member):
        """The first class of an order that has a member with a body; None if none."""
        for one in order:
            table = self.classes[one].table
            if member in table and has_body(table[member]):
                return one
        return None

    def member_names(self, order):
        """The ascending names of the members that classes have."""
        return sorted({name for one in order for name in self.classes[one].table})

    def missing_names(self, order):
        """The ascending names that have no body in an order."""
        return [name for name in self.member_names(order)
                if self.first_body(order, name) is None]

    def mixed_order(self, names):
        """The order of parts, told by the names of their classes."""
        return joined([self.order(name) for name in names])

    def is_below_sealed(self, name):
        """Whether a class is sealed, or below one that is."""
        return any([self.classes[one].is_sealed for one in self.order(name)])
