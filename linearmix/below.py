"""Which kinds are below which, why, and why not."""

from linearmix.arguing import (let_by_model, lets_scope, need_kind, need_kind_form, need_kinds_form,
                               need_lets_form)
from linearmix.asking import need_class, need_class_name
from linearmix.atoms import is_name
from linearmix.errors import NoParameter
from linearmix.lower import asks, first_bottom, first_top, gap, is_lower, is_same
from linearmix.papers import made_paper, outward_paper, paper_holds
from linearmix.parting import plain
from linearmix.scopes import outward
from linearmix.signs import freest
from linearmix.sites import sites_of


def two_kinds(program, place, kind, other):
    """The scope of a place with lets, and two kinds there with inner names."""
    model = let_by_model(program)
    need_lets_form(place)
    need_kind_form(kind)
    need_kind_form(other)
    scope = lets_scope(model, place)
    return scope, need_kind(scope, kind), need_kind(scope, other)


def many_kinds(program, place, kinds):
    """The scope of a place with lets, and kinds there with inner names."""
    model = let_by_model(program)
    need_lets_form(place)
    need_kinds_form(kinds)
    scope = lets_scope(model, place)
    return scope, [need_kind(scope, kind) for kind in kinds]


def is_below(program, place, kind, other):
    """Whether a kind is below another one."""
    scope, one, second = two_kinds(program, place, kind, other)
    return is_lower(scope, one, second)


def same_kind(program, place, kind, other):
    """Whether two kinds are below each other."""
    scope, one, second = two_kinds(program, place, kind, other)
    return is_same(scope, one, second)


def top_of(program, place, kinds):
    """The first of kinds that all are below; None if there is none."""
    scope, told = many_kinds(program, place, kinds)
    top = first_top(scope, told)
    return None if top is None else kinds[told.index(top)]


def bottom_of(program, place, kinds):
    """The first of kinds that is below all; None if there is none."""
    scope, told = many_kinds(program, place, kinds)
    bottom = first_bottom(scope, told)
    return None if bottom is None else kinds[told.index(bottom)]


def first_gap(program, place, kind, other):
    """The pairs by which a kind is not below another one; None if it is."""
    scope, one, second = two_kinds(program, place, kind, other)
    one, second = plain(scope, one), plain(scope, second)
    if asks(scope, one, second, ()):
        return None
    return [(outward(first), outward(last)) for first, last in gap(scope, one, second, ())]


def below_paper(program, place, kind, other):
    """A paper on how a kind is below another one; None if it is not."""
    scope, one, second = two_kinds(program, place, kind, other)
    paper = made_paper(scope, one, second, ())
    return None if paper is None else outward_paper(paper)


def below_holds(program, place, kind, other, thing):
    """Whether any object is a paper on how a kind is below another one, right at each node."""
    scope, one, second = two_kinds(program, place, kind, other)
    return paper_holds(scope, one, second, thing)


def freest_sign(program, name, parameter):
    """The freest sign that a kind parameter of a class might have: "+", "-", "both" or ""."""
    model = let_by_model(program)
    need_class_name(name)
    if not is_name(parameter):
        raise NoParameter("the object is no name")
    need_class(model, name)
    entry = model.classes[name]
    if parameter not in [kparam[0] for kparam in entry.kparams]:
        raise NoParameter("the class has no kind parameter of this name")
    definition = [one for one in model.definitions if one[1] == name][0]
    return freest(model, entry, sites_of(model, definition), parameter)
