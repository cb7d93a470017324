"""Which kinds are below which (point 15), for kinds with inner names."""

from linearmix.kindtools import ANY, NONE
from linearmix.parting import plain, upper_of


def is_lower(scope, one, other):
    """Whether a kind is below another one, both as they are when made plain."""
    return asks(scope, plain(scope, one), plain(scope, other), ())


def is_same(scope, one, other):
    """Whether two kinds are below each other."""
    one, other = plain(scope, one), plain(scope, other)
    return asks(scope, one, other, ()) and asks(scope, other, one, ())


def asks(scope, one, other, asked):
    """Whether a plain kind is below another one; asked: what is being asked."""
    if other == ANY or one == NONE or one == other:
        return True
    if (one, other) in asked:
        return False
    inner = asked + ((one, other),)
    if other[0] == "with" and holds_all(scope, [(one, part) for part in other[1]], inner):
        return True
    if one[0] == "with":
        for part in one[1]:
            if asks(scope, part, other, inner):
                return True
    pairs = asked_pairs(scope, one, other)
    if pairs is not None and holds_all(scope, pairs, inner):
        return True
    upper = upper_of(scope, one)
    return upper is not None and asks(scope, plain(scope, upper), other, inner)


def holds_all(scope, pairs, asked):
    """Whether each first one of pairs is below its second one."""
    for one, other in pairs:
        if not asks(scope, one, other, asked):
            return False
    return True


def asked_pairs(scope, one, other):
    """What two funs, or two kinds of classes, ask; None if they are no such two."""
    if one[0] == "fun" and other[0] == "fun" and len(one[1]) == len(other[1]):
        pairs = [(second, first) for first, second in zip(one[1], other[1])]
        return pairs + [(one[2], other[2])]
    if one[0] == "of" and other[0] == "of":
        view = scope.model.seen(one, other[1])
        if view is not None:
            return argument_pairs(scope.model.classes[other[1]].kparams, view[2], other[2])
    return None


def argument_pairs(kparams, ones, others):
    """What the arguments of a class ask, by the signs of its kind parameters."""
    pairs = []
    for kparam, one, other in zip(kparams, ones, others):
        if kparam[1] != "-":
            pairs.append((one, other))
        if kparam[1] != "+":
            pairs.append((other, one))
    return pairs


def first_top(scope, kinds):
    """The first of kinds that all are below; None if there is none."""
    told = [plain(scope, kind) for kind in kinds]
    for at, kind in enumerate(kinds):
        if holds_all(scope, [(one, told[at]) for one in told], ()):
            return kind
    return None


def first_bottom(scope, kinds):
    """The first of kinds that is below all; None if there is none."""
    told = [plain(scope, kind) for kind in kinds]
    for at, kind in enumerate(kinds):
        if holds_all(scope, [(told[at], other) for other in told], ()):
            return kind
    return None


def gap(scope, one, other, asked):
    """The pairs by which a plain kind is not below another one, from the outermost inwards."""
    if (one, other) in asked:
        return [(one, other)]
    inner = asked + ((one, other),)
    rest = []
    for first, second in shape_pairs(scope, one, other):
        if not asks(scope, first, second, inner):
            rest = gap(scope, first, second, inner)
            break
    return [(one, other)] + rest


def shape_pairs(scope, one, other):
    """What the first rule asks of which the shape fits; of a with on the left its last part."""
    if other[0] == "with":
        return [(one, part) for part in other[1]]
    if one[0] == "with":
        return [(one[1][-1], other)]
    pairs = asked_pairs(scope, one, other)
    if pairs is not None:
        return pairs
    upper = upper_of(scope, one)
    return [] if upper is None else [(plain(scope, upper), other)]
