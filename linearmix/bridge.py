"""Kinds that stand elsewhere, told here: with what stands here for the names there."""

from linearmix.faults import Fault, NoWay
from linearmix.kindtools import changed
from linearmix.parting import plain


class Bridge:
    """What stands for kind parameters and names of a class, a def or an extension.

    What is no path here stands as a phantom, which a kind may not name when it
    is made plain.
    """

    def __init__(self, scope, where):
        self.scope = scope
        self.where = where
        self.table = {}
        self.starts = {}

    def copied(self):
        """The same, for which more may come to stand."""
        other = Bridge(self.scope, self.where)
        other.table = dict(self.table)
        other.starts = dict(self.starts)
        return other

    def stand(self, inner, path, kind):
        """Puts a path for a name, or a phantom of a kind, if what stands for it is no path."""
        if path is None:
            path = ("~" + inner,)
            self.scope = self.scope.with_phantom("~" + inner, kind)
        self.starts[inner] = path

    def told(self, kind):
        """A kind from there as it is told here."""
        try:
            told = changed(kind, self.table, self.starts)
        except NoWay:
            raise Fault("path", self.where) from None
        return visible(self.scope, told, self.where)

    def told_or_none(self, kind):
        """The same; None where it can not be told."""
        try:
            return self.told(kind)
        except Fault:
            return None


def visible(scope, kind, where):
    """A kind as it is told where something may be hidden; a fault if it can not be told."""
    if not scope.hides(kind):
        return kind
    told = plain(scope, kind)
    if scope.hides(told):
        raise Fault("leaves", where)
    return told
