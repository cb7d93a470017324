"""The bodies that can be reached from main, by names alone (point 39)."""

from linearmix.foundtree import all_found
from linearmix.unready import evidences_in


class Reading:
    """What is read from some found trees on: parts that are made, and bodies.

    made are the parts that names are looked up in; subclasses tell which bodies
    are gone into, and what comes of objects and parts.
    """

    def __init__(self, script, made):
        self.script = script
        self.model = script.model
        self.made = made
        self.bodies = {}
        self.names = {}
        self.supers = {}
        self.rest = []

    def read_all(self):
        """Reads what is to be read, and all that it leads to."""
        while self.rest:
            where = self.rest.pop()
            for node in all_found(self.script.bodies[where]):
                self.read(node, where[0] if where else "")

    def read(self, node, owner):
        """Reads a found tree by itself, which stands in a class, an extension or a given."""
        e, more = node.tree[0], node.tree[3]
        if e[0] == "new":
            self.make(tuple([part[0] for part in e[1]]))
        elif e[0] == "name" and e[1] not in node.scope.reach:
            self.read_object(e[1])
        elif e[0] in ("call", "val"):
            self.read_name(e[2])
            if e[0] == "call" and more[0] == "extend":
                self.add((more[1], e[2]))
        elif e[0] == "super":
            self.read_super(owner, e[1])
        for evidence in evidences_in(node):
            if isinstance(evidence[0], tuple):
                self.read_name(evidence[0][1])
            elif self.is_given(evidence[0], node):
                self.read_given(evidence[0])

    def is_given(self, name, node):
        """Whether a name in evidence is that of a given of the program."""
        near = [one for one, _ in node.scope.lets + node.scope.wants]
        return name not in near

    def add(self, where):
        """A body is reached."""
        if where not in self.bodies:
            self.bodies[where] = True
            self.rest.append(where)

    def add_member(self, order, name):
        """The body that an order has for a name is reached."""
        owner = self.model.first_body(order, name)
        if owner is not None and self.model.classes[owner].table[name][0] not in ("vparam", "kind"):
            self.add((owner, name))

    def add_made(self, names):
        """The vals' bodies of parts, and the args of their parents, are reached."""
        order = self.script.order(names)
        for where in self.script.val_bodies(order):
            self.add(where)
        for where in self.script.arg_bodies(names[0]):
            self.add(where)

    def read_name(self, name):
        """A member of a name is asked of something."""
        if name not in self.names:
            self.names[name] = True
            for names in self.made:
                self.add_member(self.script.order(names), name)

    def read_super(self, owner, name):
        """A member of a name is asked behind a class."""
        if (owner, name) not in self.supers:
            self.supers[(owner, name)] = True
            for names in self.made:
                self.add_behind(self.script.order(names), owner, name)

    def add_behind(self, order, owner, name):
        """The body that an order has for a name behind a class, if that is in it, is reached."""
        if owner in order:
            self.add_member(order[order.index(owner) + 1:], name)

    def read_object(self, name):
        """An object is named."""
        self.make((name,))

    def read_given(self, name):
        """A given of the program is evidence."""
        self.add((name,))

    def make(self, names):
        """An object of parts is made."""
        self.add_made(names)


class Reached(Reading):
    """What main reaches: with each part that is made all names are looked up anew."""

    def __init__(self, script):
        super().__init__(script, {})
        self.add(())
        self.read_all()

    def make(self, names):
        """An object of parts is made."""
        if names not in self.made:
            self.made[names] = True
            self.add_made(names)
            order = self.script.order(names)
            for name in self.names:
                self.add_member(order, name)
            for owner, name in self.supers:
                self.add_behind(order, owner, name)

    def told(self):
        """(class, name) of the bodies, main and args of parents left aside."""
        return [row_of(where) for where in self.bodies if is_told(where)]


def is_told(where):
    """Whether a where is that of a member's, a given's or an extension's body."""
    return where != () and (len(where) == 1 or isinstance(where[1], str))


def row_of(where):
    """How a body is told: with "" as the class of a given of the program."""
    return ("", where[0]) if len(where) == 1 else where
