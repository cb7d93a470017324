"""What patterns bring into reach, of which kinds (point 19)."""

from linearmix.faults import Fault
from linearmix.holding import FREE, Choice, freed, noted_both_ways
from linearmix.kindtools import NONE, changed, starts_in
from linearmix.lower import first_bottom, first_top, is_lower, is_same
from linearmix.parting import part_told, plain, seen_kind, stripped

# What this is in the kinds of vparams that the patterns of an "of" are held against.
MATCHED = "~matched"


def pattern_names(scope, makers, kind, pattern, where):
    """The (name, kind) of a pattern that is held against a kind, in their sequence."""
    if pattern[0] == "bind":
        return [(pattern[1], kind)]
    if pattern[0] == "lit":
        if not is_lower(scope, (pattern[1][0],), kind):
            raise Fault("pattern", where)
        return []
    if pattern[0] == "is":
        return [(pattern[1], class_kind(scope, makers, kind, pattern[2], where))]
    if pattern[0] == "of":
        own = class_kind(scope, makers, kind, pattern[1], where)
        kinds = field_kinds(scope, own, where)
        if len(kinds) != len(pattern[2]):
            raise Fault("pattern", where)
        names = []
        for inner, one in zip(kinds, pattern[2]):
            names.extend(pattern_names(scope, makers, inner, one, where))
        return names
    return []


def class_kind(scope, makers, kind, name, where):
    """The kind of what is matched, as one of a class."""
    head = stripped(scope, kind)
    if not makers.can_meet(scope, plain(scope, head), name):
        raise Fault("pattern", where)
    seen = first_seen(scope.model, head, name)
    if seen is not None:
        return seen
    chosen = chosen_kinds(scope, plain(scope, head), name)
    if chosen is None:
        raise Fault("pattern", where)
    return ("of", name, chosen)


def first_seen(model, kind, name):
    """The kind as which a kind is seen from a class; of a with the first part's that is."""
    if kind[0] == "of":
        return model.seen(kind, name)
    if kind[0] == "with":
        for part in kind[1]:
            seen = first_seen(model, part, name)
            if seen is not None:
                return seen
    return None


def parts_above(model, kind, name):
    """The parts of a kind that are of a class at or above another one."""
    if kind[0] == "with":
        return [one for part in kind[1] for one in parts_above(model, part, name)]
    own = kind[0] == "of" and kind[1] in model.order(name)
    return [kind] if own else []


def choice_for(scope, kind, name):
    """The kind parameters of a class to be chosen for what is matched, and whether that holds."""
    kparams = scope.model.classes[name].kparams
    table = freed(kparams, FREE)
    choice = Choice(scope, [(FREE + kparam[0], changed(kparam[2], table, {})) for kparam in kparams])
    own = ("of", name, tuple(list(table.values())))
    return choice, all([choice.holds(own, part) for part in parts_above(scope.model, kind, name)])


def chosen_kinds(scope, kind, name):
    """The kind arguments of a class, as they have to be for what is matched; None if none are."""
    kparams = scope.model.classes[name].kparams
    choice, holds = choice_for(scope, kind, name)
    if not holds:
        return None
    told = {}
    for kparam, (free, upper) in zip(kparams, choice.kparams):
        worth = worth_by_notes(scope, choice.notes[free], kparam[1])
        if worth is None:
            return None
        told[free] = changed(upper, told, {}) if worth == ("upper",) else worth
    return tuple([told[free] for free, _ in choice.kparams])


def worth_by_notes(scope, notes, sign):
    """The kind for a kind parameter with a sign; ("upper",) for its upper, None for no one kind."""
    if sign == "+":
        below = [kind for way, kind in notes if way != "above"]
        return first_bottom(scope, below) if below else ("upper",)
    if sign == "-":
        above = [kind for way, kind in notes if way != "below"]
        return first_top(scope, above) if above else NONE
    both = noted_both_ways(notes)
    if both and all([is_same(scope, both[0], kind) for kind in both]):
        return both[0]
    return None


def field_kinds(scope, own, where):
    """The kinds of the vparams of a class's kind, made plain there."""
    inner = scope.with_phantom(MATCHED, own)
    kinds = []
    for _, kind in scope.model.classes[own[1]].vparams:
        told = plain(inner, seen_kind(scope.model, own, own[1], kind, (MATCHED,)))
        asked = []
        while told[0] == "part" and told[1][0] == MATCHED and told not in asked:
            asked.append(told)
            told = plain(inner, part_told(inner, told, ())[1])
        if MATCHED in starts_in(told):
            raise Fault("pattern", where)
        kinds.append(told)
    return kinds
