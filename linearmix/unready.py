"""Vals that may be read while an object is made, ahead of being ready (point 38)."""

from linearmix.model import form_of

THIS = ("this",)


class BodyLook:
    """What a body asks of this: members by their names, supers; whether this stands otherwise; names of objects."""

    def __init__(self, node):
        self.members = []
        self.supers = []
        self.objects = []
        self.is_loose = False
        self.look(node)

    def look(self, node):
        """Looks at a tree, and at all within it."""
        e, more = node.tree[0], node.tree[3]
        parts = list(node.parts)
        if e[0] in ("val", "call") and e[1] == THIS and not (e[0] == "call" and more[0] == "extend"):
            self.members.append(e[2])
            parts = parts[1:]
        elif e[0] == "super":
            self.supers.append(e[1])
        elif e == THIS:
            self.is_loose = True
        elif e[0] == "name" and e[1] not in node.scope.reach:
            self.objects.append(e[1])
        self.members.extend(own_givens(node))
        for part in parts:
            self.look(part)


class UnreadyReads:
    """Looks at what is made of some parts, or at an object, told by a tuple of its name.

    known are the looks at bodies that were looked at already.
    """

    def __init__(self, script, names, known):
        self.script = script
        self.model = script.model
        self.order = script.order(names)
        self.own_name = names[0] if self.model.is_object(names[0]) else None
        self.known = known
        self.unready = {}
        self.found = {}

    def rows(self):
        """(class, val) of the vals that may be read ahead."""
        vals = self.script.val_bodies(self.order)
        for at, where in enumerate(vals):
            self.unready = {row: True for row in vals[at:]}
            seen = {}
            rest = [where]
            while rest:
                body = rest.pop()
                if body not in seen:
                    seen[body] = True
                    rest.extend(self.bodies_from(body))
        return list(self.found)

    def look_at(self, where):
        """The look at a body."""
        if where not in self.known:
            self.known[where] = BodyLook(self.script.bodies[where])
        return self.known[where]

    def bodies_from(self, where):
        """The bodies that one finds; what it reads that is not ready is noted."""
        look = self.look_at(where)
        if look.is_loose or self.own_name in look.objects:
            for row in self.unready:
                self.found[row] = True
        behind = self.order[self.order.index(where[0]) + 1:]
        found = [(self.model.first_body(behind, name), name) for name in look.supers]
        for name in look.members:
            owner = self.model.first_body(self.order, name)
            member = self.model.classes[owner].table[name]
            if form_of(member) == "val" and (owner, name) in self.unready:
                self.found[(owner, name)] = True
            if member[0] != "vparam":
                found.append((owner, name))
        return found


def evidences_in(node):
    """The evidence that a found tree itself uses, and all evidence within it."""
    e, more = node.tree[0], node.tree[3]
    rest = []
    if e[0] == "summon":
        rest = [more]
    elif e[0] in ("call", "super") and e[-1] is None:
        rest = list(more[-1])
    found = []
    while rest:
        evidence = rest.pop()
        found.append(evidence)
        rest.extend(list(evidence[2]))
    return found


def own_givens(node):
    """The names of the given members of this that the evidence of a tree uses."""
    return [evidence[0][1] for evidence in evidences_in(node) if isinstance(evidence[0], tuple)]
