"""Paths, kind members of what they lead to, and plain kinds (point 14)."""

from linearmix.faults import NoWay
from linearmix.kindtools import ANY, changed, kinds_in, table_of, with_kinds
from linearmix.model import form_of


def start_kind(scope, start):
    """The kind of what a path begins with."""
    if start == "this":
        if scope.this is None:
            raise NoWay("path")
        return scope.this
    if start in scope.bound:
        binding = scope.bound[start]
        if binding.how != "value":
            raise NoWay("path")
        return binding.kind
    if scope.model.is_object(start):
        return ("of", start, ())
    raise NoWay("path")


def path_kind(scope, path, asked):
    """The kind of a path; asked are the parts that are being asked for."""
    kind = start_kind(scope, path[0])
    for at in range(1, len(path)):
        home = home_of(scope, kind, path[at], asked)
        if home is None:
            raise NoWay("path")
        owner, member = scope.model.first_with(home[1], path[at])
        if form_of(member) != "val":
            raise NoWay("path")
        kind = seen_kind(scope.model, home, owner, member[2], path[:at])
    return kind


def seen_kind(model, home, owner, kind, path):
    """A kind that stands in a class, seen from a kind below it, a path put for this."""
    view = model.seen(home, owner)
    starts = {} if path is None else {"this": path}
    return changed(kind, table_of(model.classes[owner].kparams, view[2]), starts)


def home_of(scope, kind, name, asked):
    """The kind of a class, that a kind is or that stands for it, with a member; None if none."""
    if kind[0] == "of":
        return kind if scope.model.first_with(kind[1], name) is not None else None
    if kind[0] == "with":
        for part in kind[1]:
            home = home_of(scope, part, name, asked)
            if home is not None:
                return home
        return None
    if kind[0] == "var":
        return home_of(scope, scope.uppers[kind[1]], name, asked)
    if kind[0] == "part":
        if kind in asked:
            return None
        return home_of(scope, part_told(scope, kind, asked)[1], name, asked + (kind,))
    return None


def part_told(scope, part, asked):
    """("same", kind) or ("upper", kind), of a kind member of what a path leads to."""
    _, path, name = part
    if part in asked:
        raise NoWay("path")
    if path[0] in scope.bound and scope.bound[path[0]].how == "unknown":
        return ("upper", ANY)
    inner = asked + (part,)
    home = home_of(scope, path_kind(scope, path, inner), name, inner)
    if home is None:
        raise NoWay("member")
    return member_told(scope.model, home, path, name)


def member_told(model, home, path, name):
    """The kind member of a class with a kind, else with an upper, the path put for this."""
    upper = None
    for owner in model.order(home[1]):
        member = model.classes[owner].table.get(name)
        if member is not None and member[3] is not None:
            return ("same", seen_kind(model, home, owner, member[3], path))
        if member is not None and upper is None:
            upper = ("upper", seen_kind(model, home, owner, member[2], path))
    return upper


def told_or_none(scope, part):
    """What part_told tells, None where the path can not be gone."""
    try:
        return part_told(scope, part, ())
    except NoWay:
        return None


def plain(scope, kind):
    """The kind with all parts exchanged that are the same as another kind."""
    return plain_within(scope, kind, ())


def plain_within(scope, kind, asked):
    """The same, but for parts that come again within what they are."""
    if kind[0] != "part":
        inner = kinds_in(kind)
        if not inner:
            return kind
        return with_kinds(kind, [plain_within(scope, one, asked) for one in inner])
    if kind in asked:
        return kind
    told = told_or_none(scope, kind)
    if told is None or told[0] == "upper":
        return kind
    return plain_within(scope, told[1], asked + (kind,))


def comes_again(scope, kind, asked):
    """Whether a part of a kind comes again within what it is."""
    if kind[0] != "part":
        return any([comes_again(scope, one, asked) for one in kinds_in(kind)])
    if kind in asked:
        return True
    told = told_or_none(scope, kind)
    if told is None or told[0] == "upper":
        return False
    return comes_again(scope, told[1], asked + (kind,))


def upper_of(scope, kind):
    """The upper of a kind parameter, or of a part that has one; None of all else."""
    if kind[0] == "var":
        return scope.uppers[kind[1]]
    if kind[0] == "part":
        told = told_or_none(scope, kind)
        return told[1] if told is not None and told[0] == "upper" else None
    return None


def stripped(scope, kind):
    """What a kind is, or its upper, again and again, till it is no parameter and no part."""
    asked = []
    while kind[0] in ("var", "part") and kind not in asked:
        asked.append(kind)
        if kind[0] == "var":
            kind = scope.uppers[kind[1]]
        else:
            told = told_or_none(scope, kind)
            kind = ANY if told is None else told[1]
    return kind


def same_at_head(scope, kind):
    """What a kind is, if it is a part that is the same as another one."""
    asked = []
    while kind[0] == "part" and kind not in asked:
        asked.append(kind)
        told = told_or_none(scope, kind)
        if told is None or told[0] == "upper":
            return kind
        kind = told[1]
    return kind

