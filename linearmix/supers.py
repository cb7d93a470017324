"""Bodies that nothing works: not by name, and by no chain of supers (point 37)."""

from linearmix.foundtree import all_found


def supers_in(script, where):
    """The names of the supers in a body."""
    return [node.tree[0][1] for node in all_found(script.bodies[where]) if node.tree[0][0] == "super"]


def bodies_of(script, order):
    """(class, name) of all bodies of the classes of an order."""
    return [(owner, name) for owner in order for name in script.own_bodies(owner)]


def worked_bodies(script, order):
    """(class, name) of the bodies of an order that are worked by name, or by supers of these."""
    found = [(owner, name) for owner, name in bodies_of(script, order)
             if script.model.first_body(order, name) == owner]
    rest = list(found)
    while rest:
        owner, name = rest.pop()
        for other in supers_in(script, (owner, name)):
            behind = script.model.first_body(order[order.index(owner) + 1:], other)
            if behind is not None and (behind, other) not in found:
                found.append((behind, other))
                rest.append((behind, other))
    return found


def hidden_rows(script):
    """The ascending (class, name, class) of hidden bodies, and of those worked instead."""
    rows = []
    for names in script.parts_made():
        order = script.order(names)
        worked = worked_bodies(script, order)
        for owner, name in bodies_of(script, order):
            if (owner, name) not in worked:
                rows.append((owner, name, script.model.first_body(order, name)))
    return sorted({row for row in rows})
