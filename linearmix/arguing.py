"""What functions behind check look at first: programs that are let by, places, kinds."""

from linearmix.atoms import is_big, is_name
from linearmix.errors import BadKind, BadPlace
from linearmix.kindtools import all_kinds
from linearmix.names_round import kind_words
from linearmix.scripts import let_by_script
from linearmix.sites import all_bodies, main_scope, parent_scope
from linearmix.standing import paths_stand
from linearmix.trees import is_form


def let_by_model(program):
    """The model of a program that is let by."""
    return let_by_script(program).model


def need_kind_form(thing):
    """Raises BadKind, if an object is no kind by its form."""
    if not is_form("kind", thing):
        raise BadKind("the object is no kind")


def need_kinds_form(thing):
    """Raises BadKind, if an object is no tuple of one or more kinds by their form."""
    if not isinstance(thing, tuple) or not thing:
        raise BadKind("the object is no tuple of kinds")
    for kind in thing:
        need_kind_form(kind)


def need_place_form(thing):
    """Raises BadPlace, if an object is no place by its form."""
    if not isinstance(thing, tuple) or len(thing) > 2 or not all([is_name(name) for name in thing]):
        raise BadPlace("the object is no place")


def need_lets_form(thing):
    """Raises BadPlace, if an object is no place with lets by its form."""
    if not isinstance(thing, tuple) or len(thing) != 2 or not isinstance(thing[1], tuple):
        raise BadPlace("the object is no place with lets")
    need_place_form(thing[0])
    for row in thing[1]:
        if not isinstance(row, tuple) or len(row) != 2 or not is_name(row[0]) or is_big(row[0]):
            raise BadPlace("the object is no name with a kind")
        if not is_form("kind", row[1]):
            raise BadPlace("the kind of a let is none")


def kind_stands(scope, kind):
    """Whether a kind, as it is written, is one in reach of a scope, uppers left aside."""
    return not kind_words(scope, kind) and paths_stand(scope, scope.inward(kind))


def classes_stand(model, kind):
    """Whether the classes in a kind are there, with as many arguments."""
    return all([one[1] in model.classes and len(model.classes[one[1]].kparams) == len(one[2])
                for one in all_kinds(kind) if one[0] == "of"])


def need_kind(scope, kind):
    """The kind with inner names; BadKind, if it is none in reach of a scope."""
    if not kind_stands(scope, kind):
        raise BadKind("the kind is none at this place")
    return scope.inward(kind)


def place_scope(model, place):
    """The scope of a place; BadPlace, if the program has none such."""
    scope = scope_or_none(model, place)
    if scope is None:
        raise BadPlace("the program has no such place")
    return scope


def scope_or_none(model, place):
    """The scope of a place; None, if the program has none such."""
    if place == ():
        return main_scope(model)
    if len(place) == 1 and place[0] in model.classes:
        if model.classes[place[0]].word == "trait":
            return None
        return parent_scope(model, place[0])
    for body in all_bodies(model):
        if body.where == place:
            return body.scope
    return None


def lets_scope(model, place):
    """The scope of a place with lets; BadPlace, if the program has none such."""
    scope = place_scope(model, place[0])
    for name, kind in place[1]:
        if not kind_stands(scope, kind):
            raise BadPlace("the kind of a let is none in reach")
        scope = scope.with_name(name, "value", scope.inward(kind))
    return scope
