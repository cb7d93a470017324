"""Whether any object is a found tree that is right at each node by itself (point 20)."""

from linearmix.arguing import kind_stands
from linearmix.atoms import is_big, is_name
from linearmix.evidence import EvidenceCheck
from linearmix.faults import Fault
from linearmix.finding import FINDERS, PASSING, Finder, written_kinds
from linearmix.insides import inner_trees
from linearmix.kindtools import changed, table_of
from linearmix.lower import is_lower, is_same
from linearmix.standing import look_at_kinds
from linearmix.trees import is_form


def alike(one, other):
    """Whether two objects are equal and of the same sorts at every depth."""
    if isinstance(one, tuple) and isinstance(other, tuple):
        return len(one) == len(other) and all([alike(first, second)
                                               for first, second in zip(one, other)])
    return type(one) is type(other) and one == other


def are_kinds(thing, least):
    """Whether any object is a tuple of so many kinds or more, at most six."""
    return isinstance(thing, tuple) and least <= len(thing) <= 6 and all([is_kind(one) for one in thing])


def is_kind(thing):
    """Whether any object is a kind, however deep."""
    if not isinstance(thing, tuple) or not thing:
        return False
    if thing[0] == "of":
        return len(thing) == 3 and is_name(thing[1]) and are_kinds(thing[2], 0)
    if thing[0] == "fun":
        return len(thing) == 3 and are_kinds(thing[1], 0) and is_kind(thing[2])
    if thing[0] == "with":
        return len(thing) == 2 and are_kinds(thing[1], 2)
    if thing[0] == "part":
        return len(thing) == 3 and is_form("path", thing[1]) and is_name(thing[2]) and is_big(thing[2])
    return is_form("kind", thing)


class Judge(Finder):
    """Goes the way of finding, by the kinds and the evidence that a tree tells.

    What the tree has wrong is a fault. Nodes are those at each where.
    """

    def __init__(self, makers, thing):
        super().__init__(makers)
        self.nodes = {(): thing}

    def seek(self, e, wanted, scope, where):
        """The node at a where, if it is right, below the wanted kind."""
        kind = self.told_kind(e, scope, where)
        look_at_kinds(scope, [scope.inward(one) for one in written_kinds(e)], where)
        if wanted is not None and not is_lower(scope, kind, wanted):
            raise Fault("kind", where)
        work = FINDERS[e[0]]
        found = work(self, e, kind if e[0] in PASSING or e[0] == "fun" else None, scope, where)
        if not is_same(scope, found.kind, kind) or not alike(found.tree[3], self.nodes[where][3]):
            raise Fault("kind", where)
        found.kind = kind
        found.tree = self.nodes[where]
        return found

    def told_kind(self, e, scope, where):
        """The kind that a node tells, with inner names; looks at the node's form, too."""
        node = self.nodes[where]
        if not isinstance(node, tuple) or len(node) != 4 or not alike(node[0], e):
            raise Fault("kind", where)
        if not isinstance(node[2], tuple) or len(node[2]) != len(inner_trees(e)):
            raise Fault("kind", where)
        for at, part in enumerate(node[2]):
            self.nodes[where + (at,)] = part
        return self.stood(node[1], scope, where)

    def stood(self, thing, scope, where):
        """Any object that has to be a kind in reach, with inner names."""
        if not is_kind(thing) or not kind_stands(scope, thing):
            raise Fault("kind", where)
        return scope.inward(thing)

    def more(self, where, at):
        """One of what a node tells beside, counted from the end."""
        told = self.nodes[where][3]
        if not isinstance(told, tuple) or len(told) < at:
            raise Fault("kind", where)
        return told[-at]

    def stood_kinds(self, thing, many, scope, where):
        """Any object that has to be so many kinds in reach, with inner names."""
        if not isinstance(thing, tuple) or len(thing) != many:
            raise Fault("kind", where)
        return tuple([self.stood(one, scope, where) for one in thing])

    def entering(self, wanted, inner, where):
        """A wanted kind, which may be hidden further in."""
        return wanted

    def kinds_for(self, calling, callee, wanted):
        """The kinds that the node tells, or those written."""
        if calling.kinds is not None:
            return calling.written_kinds(callee)
        told = self.more(calling.where, 2)
        kinds = self.stood_kinds(told, len(callee.kparams), calling.scope, calling.where)
        calling.need_uppers(callee, kinds)
        return kinds

    def extension_kinds(self, view, kinds, got, scope, where):
        """The kinds for an extension that the node tells, if what it is called on fits them."""
        told = self.stood_kinds(self.more(where, 3), len(view.kparams), scope, where)
        table = table_of(view.kparams, told)
        for (_, upper), kind in zip(view.kparams, told):
            if not is_lower(scope, kind, changed(upper, table, {})):
                raise Fault("upper", where)
        if not is_lower(scope, got.kind, changed(view.kind, table, {})):
            raise Fault("kind", where)
        return told

    def evidence(self, kind, scope, where, at):
        """The evidence that the node tells, if it fits."""
        told = self.nodes[where][3]
        if at is not None:
            told = self.more(where, 1)
            if not isinstance(told, tuple) or at >= len(told):
                raise Fault("kind", where)
            told = told[at]
        if not EvidenceCheck(scope).is_right(kind, told):
            raise Fault("given", where)
        return told
