"""How kind parameters stand: rightly, turned, or both at once (point 16)."""

from linearmix.kindtools import kinds_in
from linearmix.sites import ASIDE, BOTH, RIGHTLY, TURNED


def turned(way):
    """A way turned once more."""
    if way == RIGHTLY:
        return TURNED
    return RIGHTLY if way == TURNED else way


def ways_in(model, kind, way):
    """The (name, way) of all kind parameters in a kind that itself stands in a way."""
    if kind[0] == "var":
        return [(kind[1], way)]
    ways = [way for _ in kinds_in(kind)]
    if kind[0] == "fun":
        ways = [turned(way) for _ in kind[1]] + [way]
    if kind[0] == "of":
        ways = [by_sign(kparam[1], way) for kparam in model.classes[kind[1]].kparams]
    return [found for inner, one in zip(kinds_in(kind), ways) for found in ways_in(model, inner, one)]


def by_sign(sign, way):
    """How an argument stands, by the sign of the kind parameter it stands for."""
    if sign == "":
        return BOTH
    return way if sign == "+" else turned(way)


def ways_of(model, sites):
    """The (site, name, way) of all kind parameters at sites that count."""
    return [(site, name, way) for site in sites if site.way != ASIDE
            for name, way in ways_in(model, site.kind, site.way)]


def sign_breaches(model, entry, sites):
    """The wheres of sites of a class at which its signs do not let a kind parameter stand."""
    signs = {kparam[0]: kparam[1] for kparam in entry.kparams if kparam[1] != ""}
    return [site.where for site, name, way in ways_of(model, sites)
            if name in signs and way != signs[name]]


def freest(model, entry, sites, name):
    """The freest sign that a kind parameter of a class might have."""
    ways = [way for _, other, way in ways_of(model, sites) if other == name]
    rightly = any([way != TURNED for way in ways])
    is_turned = any([way != RIGHTLY for way in ways])
    if rightly and is_turned:
        return ""
    if rightly:
        return "+"
    return "-" if is_turned else "both"
