"""Whether kinds stand rightly at their place: their paths, and their arguments' uppers."""

from linearmix.faults import Fault, NoWay
from linearmix.kindtools import all_kinds, changed, table_of
from linearmix.lower import is_lower
from linearmix.parting import part_told


def paths_stand(scope, kind):
    """Whether each path in a kind can be gone, and has the kind member."""
    return all([part_stands(scope, one) for one in all_kinds(kind) if one[0] == "part"])


def part_stands(scope, part):
    """Whether a path can be gone, and has the kind member."""
    try:
        part_told(scope, part, ())
    except NoWay:
        return False
    return True


def uppers_hold(scope, kind):
    """Whether each argument in a kind is below its upper."""
    return all([arguments_hold(scope, scope.model.classes[one[1]].kparams, one[2])
                for one in all_kinds(kind) if one[0] == "of"])


def arguments_hold(scope, kparams, kinds):
    """Whether kinds are below the uppers of the kind parameters that they stand for."""
    table = table_of(kparams, kinds)
    return all([is_lower(scope, kind, changed(kparam[2], table, {}))
                for kparam, kind in zip(kparams, kinds)])


def look_at_kinds(scope, kinds, where):
    """Raises the fault of kinds that are written at a tree: first paths, then uppers."""
    if not all([paths_stand(scope, kind) for kind in kinds]):
        raise Fault("path", where)
    if not all([uppers_hold(scope, kind) for kind in kinds]):
        raise Fault("upper", where)
