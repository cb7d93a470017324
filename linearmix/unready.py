"""Vals that may be read while an object is made, ahead of being ready (point 38)."""

from linearmix.model import form_of

THIS = ("this",)


class UnreadyReads:
    """Looks at what is made of some parts, or at an object, told by a tuple of its name."""

    def __init__(self, script, names):
        self.script = script
        self.model = script.model
        self.order = self.model.mixed_order(list(names))
        self.own_name = names[0] if self.model.is_object(names[0]) else None
        self.unready = []
        self.found = {}
        self.seen = {}

    def rows(self):
        """(class, val) of the vals that may be read ahead."""
        vals = self.script.val_bodies(self.order)
        for at, where in enumerate(vals):
            self.unready = vals[at:]
            self.seen = {}
            rest = [where]
            while rest:
                body = rest.pop()
                if body not in self.seen:
                    self.seen[body] = True
                    rest.extend(self.look(self.script.bodies[body], body[0]))
        return list(self.found)

    def look(self, node, owner):
        """Looks at a tree in a body of a class; tells the bodies that it finds."""
        e, more = node.tree[0], node.tree[3]
        found = []
        parts = list(node.parts)
        if e[0] in ("val", "call") and e[1] == THIS and not (e[0] == "call" and more[0] == "extend"):
            found.extend(self.asked(e[2]))
            parts = parts[1:]
        elif e[0] == "super":
            behind = self.order[self.order.index(owner) + 1:]
            found.append((self.model.first_body(behind, e[1]), e[1]))
        elif e == THIS or e[0] == "name" and self.is_own_name(node):
            self.note(self.unready)
        for name in own_givens(node):
            found.extend(self.asked(name))
        for part in parts:
            found.extend(self.look(part, owner))
        return found

    def is_own_name(self, node):
        """Whether a name is that of the object that is being made."""
        return node.tree[0][1] == self.own_name and self.own_name not in node.scope.reach

    def asked(self, name):
        """The body, if any, that a member of this has for a name; a val that is not ready is noted."""
        owner = self.model.first_body(self.order, name)
        member = self.model.classes[owner].table[name]
        if member[0] == "vparam":
            return []
        if form_of(member) == "val" and (owner, name) in self.unready:
            self.note([(owner, name)])
        return [(owner, name)]

    def note(self, rows):
        """Notes vals as being read ahead."""
        for row in rows:
            self.found[row] = True


def evidences_in(node):
    """The evidence that a found tree itself uses, and all evidence within it."""
    e, more = node.tree[0], node.tree[3]
    rest = []
    if e[0] == "summon":
        rest = [more]
    elif e[0] in ("call", "super") and e[-1] is None:
        rest = list(more[-1])
    found = []
    while rest:
        evidence = rest.pop()
        found.append(evidence)
        rest.extend(list(evidence[2]))
    return found


def own_givens(node):
    """The names of the given members of this that the evidence of a tree uses."""
    return [evidence[0][1] for evidence in evidences_in(node) if isinstance(evidence[0], tuple)]
