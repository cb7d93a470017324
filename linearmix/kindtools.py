"""Kinds by their form alone: what stands in them, and other things put in its place."""

from linearmix.faults import NoWay

ANY = ("any",)
NONE = ("none",)
INT = ("int",)
TRUTH = ("truth",)
TEXT = ("text",)
UNIT = ("unit",)

PATH_MOST = 3


def kinds_in(kind):
    """The kinds that stand directly in a kind, in their sequence."""
    if kind[0] == "of":
        return list(kind[2])
    if kind[0] == "fun":
        return list(kind[1]) + [kind[2]]
    if kind[0] == "with":
        return list(kind[1])
    return []


def with_kinds(kind, inner):
    """The kind with other kinds in the place of those directly in it."""
    if kind[0] == "of":
        return ("of", kind[1], tuple(inner))
    if kind[0] == "fun":
        return ("fun", tuple(inner[:-1]), inner[-1])
    if kind[0] == "with":
        return ("with", tuple(inner))
    return kind


def all_kinds(kind):
    """A kind and all kinds in it, the outer ahead of the inner, from the left."""
    told = [kind]
    for inner in kinds_in(kind):
        told.extend(all_kinds(inner))
    return told


def vars_in(kind):
    """The names of the kind parameters that stand in a kind."""
    return [one[1] for one in all_kinds(kind) if one[0] == "var"]


def starts_in(kind):
    """The first names of the paths that stand in a kind."""
    return [one[1][0] for one in all_kinds(kind) if one[0] == "part"]


def has_open(kind, names):
    """Whether one of the kind parameters, a dict by names, stands in a kind."""
    return any([name in names for name in vars_in(kind)])


def changed(kind, table, starts):
    """The kind with kinds for kind parameters and paths for first names, all at once."""
    if kind[0] == "var":
        return table.get(kind[1], kind)
    if kind[0] == "part":
        path = starts.get(kind[1][0])
        return kind if path is None else ("part", longer_path(path, kind[1][1:]), kind[2])
    return with_kinds(kind, [changed(inner, table, starts) for inner in kinds_in(kind)])


def longer_path(path, steps):
    """A path with further steps, which may not be too many."""
    if len(path) + len(steps) > PATH_MOST:
        raise NoWay("path")
    return path + steps


def table_of(kparams, kinds):
    """A dict of kinds by the names of the kind parameters that they stand for."""
    return {kparam[0]: kind for kparam, kind in zip(kparams, kinds)}


def vars_of(kparams):
    """The kind parameters themselves, as kinds."""
    return tuple([("var", kparam[0]) for kparam in kparams])
