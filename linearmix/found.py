"""Found kinds: whole found trees, kinds at places, patterns, and kinds that are chosen."""

from linearmix.arguing import (classes_stand, let_by_model, lets_scope, need_kind, need_kind_form,
                               need_lets_form)
from linearmix.choosing import chosen_at, need_choice_form
from linearmix.errors import BadKind, BadPatterns
from linearmix.faults import Fault
from linearmix.finding import Finder
from linearmix.holding import FREE
from linearmix.insides import classes_in_pattern, names_in_pattern
from linearmix.judging import Judge
from linearmix.kindtools import starts_in, vars_in
from linearmix.makers import Makers, news_in
from linearmix.names_round import has_twice
from linearmix.patterns import pattern_names
from linearmix.rounds import fault_in_expression
from linearmix.scopes import outward
from linearmix.scripts import let_by_script
from linearmix.sites import main_scope
from linearmix.trees import is_form, need_form


def found(program):
    """(where, found tree) of all bodies of a program, main last."""
    bodies = let_by_script(program).bodies
    return [(where, bodies[where].tree) for where in bodies]


def kind_at(program, place, e, wanted):
    """("found", kind) of an expression at a place with lets, or (word, where) of what is wrong."""
    model = let_by_model(program)
    need_lets_form(place)
    need_form("tree", e)
    if wanted is not None:
        need_kind_form(wanted)
    scope = lets_scope(model, place)
    aim = None if wanted is None else need_kind(scope, wanted)
    told = fault_in_expression(scope, e)
    if told is not None:
        return told
    try:
        tree = Finder(Makers(model, news_in("tree", e))).seek(e, aim, scope, ())
    except Fault as fault:
        return (fault.word, fault.where)
    return ("found", outward(tree.kind))


def names_of_pattern(program, kind, pattern):
    """The (name, kind) of the names of a pattern that is held against a kind."""
    model = let_by_model(program)
    need_bare_kind(kind)
    if not is_form("pattern", pattern):
        raise BadPatterns("the object is no pattern")
    if not classes_stand(model, kind):
        raise BadKind("the kind is of no class, or of another number of arguments")
    if has_twice(names_in_pattern(pattern)):
        raise BadPatterns("a name stands twice")
    if not all([name in model.classes for name in classes_in_pattern(pattern)]):
        raise BadPatterns("a class of the pattern is none")
    try:
        names = pattern_names(main_scope(model), Makers(model, []), kind, pattern, ())
    except Fault:
        raise BadPatterns("the pattern is not let for the kind") from None
    return tuple([(name, outward(one)) for name, one in names])


def need_bare_kind(thing):
    """Raises BadKind, if an object is no kind by form, or one with kind parameters or parts."""
    need_kind_form(thing)
    if vars_in(thing) or starts_in(thing):
        raise BadKind("a kind parameter or a part stands in the kind")


def choose(program, place, kparams, pairs, result, wanted):
    """("chosen", kinds) for kind parameters, or (word, name) of the one at which it fails."""
    model = let_by_model(program)
    need_lets_form(place)
    need_choice_form(kparams, pairs, result, wanted)
    scope = lets_scope(model, place)
    word, told = chosen_at(scope, kparams, pairs, result, wanted)
    if word != "chosen":
        return (word, told.removeprefix(FREE))
    return (word, tuple([outward(kind) for kind in told]))


def tree_right(program, place, e, thing):
    """Whether any object is a found tree of an expression, right at each node by itself."""
    model = let_by_model(program)
    need_lets_form(place)
    need_form("tree", e)
    scope = lets_scope(model, place)
    if fault_in_expression(scope, e) is not None:
        return False
    try:
        Judge(Makers(model, news_in("tree", e)), thing).seek(e, None, scope, ())
    except Fault:
        return False
    return True
