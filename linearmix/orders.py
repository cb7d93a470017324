"""The one order of a class, and of an object of several parts."""

from linearmix.asking import need_class, need_class_name, need_parts, ordered_model
from linearmix.breaches import class_disorder


def order_of(program, name):
    """The names of a class and of all that it takes in, in their order."""
    model = ordered_model(program)
    need_class_name(name)
    need_class(model, name)
    return model.order(name)


def order_holds(program, name, thing):
    """Whether any object is the order of a class."""
    model = ordered_model(program)
    need_class_name(name)
    need_class(model, name)
    return isinstance(thing, tuple) and thing == model.order(name)


def disordered(program):
    """Classes with the first two names that a parent has the other way round."""
    model = ordered_model(program)
    found = []
    for name in model.classes:
        pair = class_disorder(model, name)
        if pair is not None:
            found.append((name,) + pair)
    return sorted(found)


def mixed(program, parts):
    """The order that an object of these parts has."""
    model = ordered_model(program)
    need_parts(model, parts)
    return model.mixed_order([part[0] for part in parts])
