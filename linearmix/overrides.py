"""What overrides what in an order (point 11)."""

from linearmix.kindtools import changed, table_of
from linearmix.lower import is_lower, is_same
from linearmix.model import form_of, has_body
from linearmix.parting import seen_kind
from linearmix.scopes import Binding
from linearmix.sites import class_def_signature


class Seen:
    """A member of a class, seen from the class whose order it is in."""

    def __init__(self, scope, home, owner):
        self.scope = scope
        self.home = home
        self.owner = owner

    def seen_as(self, kind):
        """A kind that stands in the class, as it is seen."""
        return seen_kind(self.scope.model, self.home, self.owner, kind, None)


def broken_names(scope, home):
    """The ascending names of members of a class's kind that override wrongly."""
    model = scope.model
    order = model.order(home[1])
    return [name for name in model.member_names(order)
            if not name_holds(scope, home, [one for one in order if name in model.classes[one].table],
                              name)]


def name_holds(scope, home, owners, name):
    """Whether the members of one name override rightly; owners from the nearest on."""
    rows = [(Seen(scope, home, one), scope.model.classes[one].table[name]) for one in owners]
    forms = [form_of(member) for _, member in rows]
    if not all([form == forms[0] for form in forms]):
        return False
    if forms[0] == "kind":
        return kinds_hold(scope, rows)
    for at, near in enumerate(rows):
        for far in rows[at + 1:]:
            if not pair_holds(scope, near, far):
                return False
    return True


def kinds_hold(scope, rows):
    """Whether kind members of one name agree."""
    uppers = [seen.seen_as(member[2]) for seen, member in rows]
    kinds = [seen.seen_as(member[3]) for seen, member in rows if member[3] is not None]
    if not all([is_lower(scope, kind, upper) for kind in kinds for upper in uppers]):
        return False
    if not all([is_lower(scope, upper, other) for at, upper in enumerate(uppers)
                for other in uppers[at + 1:]]):
        return False
    return all([is_same(scope, kinds[0], kind) for kind in kinds])


def pair_holds(scope, near, far):
    """Whether one member may override another one of its form and name."""
    form = form_of(near[1])
    if form == "def":
        return defs_hold(scope, near, far)
    if form == "lazy" or form == "val" and has_body(near[1]) and has_body(far[1]):
        return False
    return results_hold(scope, near, far, near[0].seen_as(near[1][2]), far[0].seen_as(far[1][2]))


def results_hold(scope, near, far, one, other):
    """Whether the kind of the nearer one is below, or the same where it has no body and the other one has."""
    if not has_body(near[1]) and has_body(far[1]):
        return is_same(scope, one, other)
    return is_lower(scope, one, other)


def alike_signature(seen, member):
    """The signature of a def with its names told by their numbers alone."""
    signature = class_def_signature(seen.scope.model, seen.owner, member)
    view = seen.scope.model.seen(seen.home, seen.owner)
    table = table_of(seen.scope.model.classes[seen.owner].kparams, view[2])
    for at, (name, _) in enumerate(signature.kparams):
        table[name] = ("var", "#" + str(at))
    starts = {}
    for at, (inner, _, _) in enumerate(signature.params):
        starts[inner] = ("~p" + str(at),)
    for at, (inner, _) in enumerate(signature.wants):
        starts[inner] = ("~w" + str(at),)
    return [[changed(kind, table, starts) for kind in kinds]
            for kinds in ([upper for _, upper in signature.kparams],
                          [param[1] for param in signature.params],
                          [want[1] for want in signature.wants], [signature.result])]


def signature_scope(scope, told, member):
    """The scope in which a def's kinds are held against each other."""
    uppers, params, wants, _ = told
    for at, upper in enumerate(uppers):
        scope = scope.with_upper("#" + str(at), upper)
    scope = scope.copied()
    for at, kind in enumerate(params):
        scope.bound["~p" + str(at)] = Binding("byname" if member[3][at][2] else "value", kind)
    for at, kind in enumerate(wants):
        scope.bound["~w" + str(at)] = Binding("value", kind)
    return scope


def defs_hold(scope, near, far):
    """Whether a def may override another one."""
    if [len(near[1][at]) for at in (2, 3, 4)] != [len(far[1][at]) for at in (2, 3, 4)]:
        return False
    if [param[2] for param in near[1][3]] != [param[2] for param in far[1][3]]:
        return False
    one, other = alike_signature(near[0], near[1]), alike_signature(far[0], far[1])
    inner = signature_scope(scope, one, near[1])
    for ones, others in zip(one[:3], other[:3]):
        if not all([is_same(inner, first, second) for first, second in zip(ones, others)]):
            return False
    return results_hold(inner, near, far, one[3][0], other[3][0])
