"""A program that is let by, with all that was found of its bodies."""

from linearmix.errors import NotLetBy
from linearmix.faults import Fault
from linearmix.finding import Finder
from linearmix.makers import Makers
from linearmix.model import Model
from linearmix.rounds import first_fault
from linearmix.sites import all_bodies
from linearmix.trees import need_program


class Script:
    """A program: its model, what can be made, and its bodies as found, by their where.

    A fault is raised for the first that is wrong with it.
    """

    def __init__(self, program):
        self.model = Model(program)
        told = first_fault(self.model)
        if told is not None:
            raise Fault(told[0], told[1])
        self.makers = Makers(self.model, [])
        finder = Finder(self.makers)
        self.bodies = {}
        for body in all_bodies(self.model):
            self.bodies[body.where] = finder.find_body(body)

    def definition(self, name):
        """The definition of a name."""
        return [one for one in self.model.definitions if one[1] == name][0]

    def def_of(self, owner, name):
        """A def of a class, or of an extension."""
        if owner in self.model.classes:
            return self.model.classes[owner].table[name]
        return [member for member in self.definition(owner)[5] if member[1] == name][0]


def is_single(definition):
    """Whether a definition is an object, or a given without kind parameters and wants."""
    if definition[0] == "given":
        return definition[2] == () and definition[3] == ()
    return definition[0] == "object"


def let_by_script(program):
    """The script of a program that is let by; BadForm or NotLetBy for any other object."""
    need_program(program)
    try:
        script = Script(program)
    except Fault as fault:
        raise NotLetBy((fault.word, fault.where)) from None
    return script
