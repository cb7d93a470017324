"""Questions that are answered without a run."""

from linearmix.asking import need_class, need_class_name
from linearmix.atoms import is_name
from linearmix.errors import BadClass, NoMember
from linearmix.model import form_of, has_body
from linearmix.reached import Reached
from linearmix.ringing import all_rings
from linearmix.scripts import let_by_script
from linearmix.supers import hidden_rows
from linearmix.unready import UnreadyReads
from linearmix.walks import all_within


def need_member_name(thing):
    """Raises NoMember, if an object is no name by itself."""
    if not is_name(thing):
        raise NoMember("the object is no name")


def need_made(script, name):
    """Raises BadClass, if a name is that of no class that can be made."""
    need_class(script.model, name)
    if name not in script.makers.names:
        raise BadClass("no object can be made of just this class")


def worked_by(program, name, member):
    """The class whose body a call on objects of a class works."""
    script = let_by_script(program)
    need_class_name(name)
    need_member_name(member)
    need_made(script, name)
    told = script.model.first_with(name, member)
    if told is None or form_of(told[1]) == "kind":
        raise NoMember("the class has no def, val, lazy or given of this name")
    return script.model.first_body(script.model.order(name), member)


def hidden(program):
    """The ascending (class, name, class) of bodies that are hidden, and of those worked instead."""
    return hidden_rows(let_by_script(program))


def asks(program, name, member):
    """The ascending names of supers, and of calls and vals of this, in a body of a class."""
    script = let_by_script(program)
    need_class_name(name)
    need_member_name(member)
    need_class(script.model, name)
    told = script.model.classes[name].table.get(member)
    if told is None or not has_body(told):
        raise NoMember("the class itself has no body of this name")
    if told[0] in ("vparam", "kind"):
        return []
    trees = [tree for sort, tree in all_within("tree", told[-1]) if sort == "tree"]
    return sorted({asked_name(tree) for tree in trees if asked_name(tree) is not None})


def asked_name(tree):
    """The name that a tree asks this for, or what is behind it; None if it asks for none."""
    if tree[0] == "super":
        return tree[1]
    return tree[2] if tree[0] in ("call", "val") and tree[1] == ("this",) else None


def ready_order(program, name):
    """(class, val) in the sequence in which they become ready when an object is made."""
    script = let_by_script(program)
    need_class_name(name)
    need_made(script, name)
    return script.vparam_order(name) + script.val_bodies(script.model.order(name))


def unready_reads(program):
    """The ascending (class, val) that may be read ahead of being ready."""
    script = let_by_script(program)
    known = {}
    found = [row for names in script.parts_made() for row in UnreadyReads(script, names, known).rows()]
    return sorted({row for row in found})


def reached(program):
    """The ascending (class, name) of the bodies that main can reach."""
    script = let_by_script(program)
    return sorted(Reached(script).told())


def never_reached(program):
    """The ascending (class, name) of all other bodies."""
    script = let_by_script(program)
    told = Reached(script).told()
    return sorted([row for row in script.all_rows() if row not in told])


def rounds(program):
    """The ascending rings of what is worked once and asks for itself."""
    return all_rings(let_by_script(program))
