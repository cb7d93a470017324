"""A program that is let by, with all that was found of its bodies."""

from linearmix.errors import NotLetBy
from linearmix.faults import Fault
from linearmix.finding import Finder
from linearmix.makers import Makers
from linearmix.model import Model, has_body
from linearmix.rounds import first_fault
from linearmix.sites import all_bodies
from linearmix.trees import need_program


class Script:
    """A program: its model, what can be made, and its bodies as found, by their where.

    A fault is raised for the first that is wrong with it.
    """

    def __init__(self, program):
        self.model = Model(program)
        told = first_fault(self.model)
        if told is not None:
            raise Fault(told[0], told[1])
        self.makers = Makers(self.model, [])
        self.orders = {}
        finder = Finder(self.makers)
        self.bodies = {}
        for body in all_bodies(self.model):
            self.bodies[body.where] = finder.find_body(body)

    def definition(self, name):
        """The definition of a name."""
        return [one for one in self.model.definitions if one[1] == name][0]

    def def_of(self, owner, name):
        """A def of a class, or of an extension."""
        if owner in self.model.classes:
            return self.model.classes[owner].table[name]
        return [member for member in self.definition(owner)[5] if member[1] == name][0]

    def order(self, names):
        """The order of an object of parts, or of an object, told by a tuple of its name."""
        if names not in self.orders:
            self.orders[names] = self.model.mixed_order(list(names))
        return self.orders[names]

    def parts_made(self):
        """The names of the parts of all news, and, as one part, the names of all objects."""
        objects = [(name,) for name in self.model.classes if self.model.is_object(name)]
        return objects + [names for names in self.makers.news]

    def own_bodies(self, owner):
        """The names of the members of a class with a body, kinds and vparams left aside."""
        return [member[1] for member in self.model.classes[owner].members
                if member[0] != "kind" and has_body(member)]

    def all_rows(self):
        """(class, name) of all bodies, "" as the class of givens, args of parents left aside."""
        rows = []
        for definition in self.model.definitions:
            if definition[0] == "given":
                rows.append(("", definition[1]))
            elif definition[0] == "extend":
                rows.extend([(definition[1], member[1]) for member in definition[5]])
            else:
                rows.extend([(definition[1], name) for name in self.own_bodies(definition[1])])
        return rows

    def val_bodies(self, order):
        """(class, val) of the vals with a body in an order, from its far end, vparams left aside."""
        found = []
        for owner in reversed(list(order)):
            for member in self.model.classes[owner].members:
                if member[0] == "val" and has_body(member):
                    found.append((owner, member[1]))
        return found

    def parent_class(self, name):
        """The class that is the first parent of one; None if that is a trait, or there is none."""
        parents = self.model.classes[name].parents
        if parents and self.model.classes[parents[0][0]].word == "class":
            return parents[0][0]
        return None

    def class_chain(self, name):
        """A class, the class that is its first parent, and so on."""
        chain = []
        while name is not None:
            chain.append(name)
            name = self.parent_class(name)
        return chain

    def vparam_order(self, name):
        """(class, vparam) of a class, of the class that is its first parent, and so on."""
        return [(owner, vparam) for owner in self.class_chain(name)
                for vparam, _ in self.model.classes[owner].vparams]

    def arg_bodies(self, name):
        """The wheres of the args of the parents of a class, and of those above it."""
        return [(owner, at) for owner in self.class_chain(name)
                for parent in self.model.classes[owner].parents[:1] for at in range(len(parent[2]))]


def is_single(definition):
    """Whether a definition is an object, or a given without kind parameters and wants."""
    if definition[0] == "given":
        return definition[2] == () and definition[3] == ()
    return definition[0] == "object"


def let_by_script(program):
    """The script of a program that is let by; BadForm or NotLetBy for any other object."""
    need_program(program)
    try:
        script = Script(program)
    except Fault as fault:
        raise NotLetBy((fault.word, fault.where)) from None
    return script
