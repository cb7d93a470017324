"""Givens that are found by search, and evidence."""

from linearmix.arguing import (let_by_model, need_kind, need_kind_form, need_place_form, place_scope)
from linearmix.atoms import is_name
from linearmix.errors import NoName
from linearmix.evidence import EvidenceCheck, outward_evidence, sorted_evidence
from linearmix.scopes import outward
from linearmix.scripts import let_by_script
from linearmix.searching import Searcher


def scope_and_kind(program, place, kind):
    """The scope of a place, and a kind there with inner names."""
    model = let_by_model(program)
    need_place_form(place)
    need_kind_form(kind)
    scope = place_scope(model, place)
    return scope, need_kind(scope, kind)


def outward_result(result):
    """What a search tells, with the kinds as they are told."""
    word, told = result
    if word == "found":
        return (word, outward_evidence(told))
    return (word, told) if word == "ambiguous" else (word, outward(told))


def find_given(program, place, kind):
    """The evidence for a kind from a place, or the reason why there is no one."""
    scope, wanted = scope_and_kind(program, place, kind)
    return outward_result(Searcher(scope, None).outcome(wanted))


def evidence_holds(program, place, kind, thing):
    """Whether any object is the evidence that is found."""
    scope, wanted = scope_and_kind(program, place, kind)
    word, told = outward_result(Searcher(scope, None).outcome(wanted))
    return word == "found" and isinstance(thing, tuple) and thing == told


def evidence_fits(program, place, kind, thing):
    """Whether any object is evidence for a kind that is right at each step, found or not."""
    scope, wanted = scope_and_kind(program, place, kind)
    return EvidenceCheck(scope).is_right(wanted, thing)


def all_evidence(program, place, kind):
    """The ascending list of all evidence for a kind from a place."""
    scope, wanted = scope_and_kind(program, place, kind)
    return sorted_evidence(scope, wanted)


def would_change(program, name):
    """The ascending (place, kind) of searches that find something else without a given."""
    script = let_by_script(program)
    if not is_name(name) or name not in [one[1] for one in script.model.definitions if one[0] == "given"]:
        raise NoName("no given of the program has this name")
    found = []
    for where in script.bodies:
        if where != (name,):
            for scope, kind in script.bodies[where].searches:
                row = (scope.place, outward(kind))
                if row not in found and changes(scope, kind, name):
                    found.append(row)
    return sorted(found)


def changes(scope, kind, name):
    """Whether a search finds something else without a given."""
    return Searcher(scope, None).outcome(kind) != Searcher(scope, name).outcome(kind)
