"""What choose is handed: kind parameters, pairs of kinds, a result, and what is wanted."""

from linearmix.arguing import kind_stands, need_kind, need_kind_form
from linearmix.errors import BadKind
from linearmix.holding import FREE, Choice, freed
from linearmix.kindtools import changed
from linearmix.trees import is_form


def need_choice_form(kparams, pairs, result, wanted):
    """Raises BadKind, if one of four objects is not of its sort by form."""
    if not is_form("signed kparams", kparams):
        raise BadKind("the object is no tuple of kind parameters")
    if not isinstance(pairs, tuple):
        raise BadKind("the object is no tuple of pairs of kinds")
    for pair in pairs:
        if not isinstance(pair, tuple) or len(pair) != 2:
            raise BadKind("the object is no pair of kinds")
        need_kind_form(pair[0])
        need_kind_form(pair[1])
    need_kind_form(result)
    if wanted is not None:
        need_kind_form(wanted)


def chosen_at(scope, kparams, pairs, result, wanted):
    """What choose tells at a scope."""
    inner = scope
    for name, _, upper in kparams:
        if not kind_stands(inner, upper):
            raise BadKind("an upper is no kind there")
        inner = inner.with_upper(name, upper)
    told = [(need_kind(scope, one), need_kind(inner, other)) for one, other in pairs]
    own = need_kind(inner, result)
    aim = None if wanted is None else need_kind(scope, wanted)
    table = freed(kparams, FREE)
    choice = Choice(scope, [(FREE + name, changed(scope.inward(upper), table, {}))
                            for name, _, upper in kparams])
    for one, other in told:
        if not choice.holds(one, changed(other, table, {})):
            return ("kind", "")
    if aim is not None:
        choice.note_result(changed(own, table, {}), aim)
    return choice.chosen()
