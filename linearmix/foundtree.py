"""Found trees: an expression, its kind, those in it, and what was found beside."""

from linearmix.scopes import outward


class Found:
    """A found tree, with its kind by inner names, its path, and the searches in it."""

    def __init__(self, e, kind, parts, more):
        self.kind = kind
        self.path = None
        self.tree = (e, outward(kind), tuple([part.tree for part in parts]), more)
        self.searches = [one for part in parts for one in part.searches]
