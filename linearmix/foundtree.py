"""Found trees: an expression, its kind, those in it, and what was found beside."""

from linearmix.scopes import outward


class Found:
    """A found tree, with its kind by inner names, its path, and the searches in it.

    form is that of the member which a val reads; where and scope are those of the tree.
    """

    def __init__(self, e, kind, parts, more):
        self.kind = kind
        self.path = None
        self.parts = parts
        self.form = ""
        self.where = ()
        self.scope = None
        self.tree = (e, outward(kind), tuple([part.tree for part in parts]), more)
        self.searches = [one for part in parts for one in part.searches]


def all_found(node):
    """A found tree and all within it, the outer ahead of the inner, from the left."""
    told = [node]
    for part in node.parts:
        told.extend(all_found(part))
    return told
