"""The members of a class, and where their bodies stand."""

from linearmix.asking import need_class, need_class_name, need_parts, ordered_model
from linearmix.atoms import is_name
from linearmix.errors import NoMember, NotAbove
from linearmix.model import form_of, has_body


def members_of(program, name):
    """The members of a class, ascending, each with a class of the order and its form."""
    model = ordered_model(program)
    need_class_name(name)
    need_class(model, name)
    order = model.order(name)
    return [member_row(model, order, member) for member in model.member_names(order)]


def member_row(model, order, member):
    """A member's name, the first class with a body for it, or with it, and its form there."""
    owner = model.first_body(order, member)
    if owner is None:
        owner = model.first_with(order[0], member)[0]
    return (member, owner, form_of(model.classes[owner].table[member]))


def bodies(program, name, member):
    """All classes of the order that have the member with a body, in the order."""
    model = ordered_model(program)
    need_class_name(name)
    if not is_name(member):
        raise NoMember("the object is no name")
    need_class(model, name)
    order = model.order(name)
    if member not in model.member_names(order):
        raise NoMember("the class has no member of this name")
    return [one for one in order
            if member in model.classes[one].table and has_body(model.classes[one].table[member])]


def super_of(program, name, above, member):
    """The class in which a super in one above finds its body; None if there is none."""
    model = ordered_model(program)
    need_class_name(name)
    if not is_name(above):
        raise NotAbove("the object is no name")
    need_class(model, name)
    order = model.order(name)
    if above not in order:
        raise NotAbove("the class is none of the order")
    if not is_name(member):
        return None
    return model.first_body(order[order.index(above) + 1:], member)


def lacking(program, parts):
    """The ascending names that have no body in an object of these parts."""
    model = ordered_model(program)
    need_parts(model, parts)
    return model.missing_names(model.mixed_order([part[0] for part in parts]))
