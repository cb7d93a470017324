"""Kinds seen from classes, put into each other, and parts of what paths lead to."""

from linearmix.arguing import (classes_stand, let_by_model, lets_scope, need_kind, need_kind_form,
                               need_lets_form)
from linearmix.asking import need_class, need_class_name
from linearmix.atoms import is_big, is_name
from linearmix.errors import BadKind, BadPath, NoMember
from linearmix.faults import NoWay
from linearmix.kindtools import changed
from linearmix.names_round import kind_words
from linearmix.parting import part_told, plain
from linearmix.patterns import first_seen
from linearmix.scopes import outward
from linearmix.trees import is_form


def seen_from(program, kind, name):
    """The kind as which a kind is seen from a class; None if it is not below it."""
    model = let_by_model(program)
    need_kind_form(kind)
    need_class_name(name)
    if not classes_stand(model, kind):
        raise BadKind("the kind is of no class, or of another number of arguments")
    need_class(model, name)
    return first_seen(model, kind, name)


def put_in(kind, pairs, path):
    """The kind with kinds for kind parameters, and a path for this."""
    need_kind_form(kind)
    need_pairs_form(pairs)
    if path is not None and not is_form("path", path):
        raise BadPath("the object is no path")
    try:
        return changed(kind, dict(pairs), {} if path is None else {"this": path})
    except NoWay:
        raise BadPath("a path would have too many names") from None


def need_pairs_form(thing):
    """Raises BadKind, if an object is no tuple of names of kind parameters with kinds."""
    if not isinstance(thing, tuple):
        raise BadKind("the object is no tuple of names and kinds")
    for row in thing:
        if not isinstance(row, tuple) or len(row) != 2 or not is_name(row[0]) or not is_big(row[0]):
            raise BadKind("the object is no name of a kind parameter with a kind")
        need_kind_form(row[1])
    names = [name for name, _ in thing]
    if any([names.count(name) > 1 for name in names]):
        raise BadKind("a name stands twice")


def part_of(program, place, kind):
    """("same", kind) or ("upper", kind), for a kind member of what a path leads to."""
    model = let_by_model(program)
    need_lets_form(place)
    if not is_form("kind", kind) or kind[0] != "part":
        raise BadKind("the object is no kind member of a path")
    scope = lets_scope(model, place)
    if kind_words(scope, kind):
        raise BadPath("the first name of the path is not in reach")
    try:
        word, told = part_told(scope, scope.inward(kind), ())
    except NoWay as way:
        if way.word == "member":
            raise NoMember("what the path leads to has no such kind member") from None
        raise BadPath("the path can not be gone") from None
    return (word, outward(told))


def plain_kind(program, place, kind):
    """The kind with all parts exchanged that are the same as another kind."""
    model = let_by_model(program)
    need_lets_form(place)
    need_kind_form(kind)
    scope = lets_scope(model, place)
    return outward(plain(scope, need_kind(scope, kind)))
