"""What functions of stage 2 look at first: the program, a class's name, parts."""

from linearmix.atoms import is_name
from linearmix.breaches import first_breach
from linearmix.errors import BadClass, BadParts, BadProgram
from linearmix.model import Model
from linearmix.trees import is_form, need_program


def ordered_model(program):
    """The model of a program of which the parents are as they have to be."""
    need_program(program)
    model = Model(program)
    name = first_breach(model)
    if name is not None:
        raise BadProgram((name,))
    return model


def need_class_name(name):
    """Raises BadClass, if an object is no name by itself."""
    if not is_name(name):
        raise BadClass("the object is no name")


def need_class(model, name):
    """Raises BadClass, if a name is that of no class of the program."""
    if name not in model.classes:
        raise BadClass("no class of the program has this name")


def need_parts(model, parts):
    """Raises BadParts, if no object has parts of these classes."""
    if not is_form("tree", ("new", parts)):
        raise BadParts("the object is not of the form of parts")
    names = [part[0] for part in parts]
    for at, name in enumerate(names):
        if name not in model.classes:
            raise BadParts("a part is of no class of the program")
        if model.classes[name].word != ("trait" if at else "class"):
            raise BadParts("the first part is no class, or a further one no trait")
    if any([names.count(name) > 1 for name in names]):
        raise BadParts("a name stands twice")
