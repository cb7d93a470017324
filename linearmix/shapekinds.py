"""Sealed kinds, the classes that their shapes can have, and the kinds of these classes' vparams (23)."""

from linearmix.kindtools import changed, kinds_in, with_kinds
from linearmix.makers import may_be_of, new_meets
from linearmix.parting import part_told, plain, seen_kind, stripped
from linearmix.patterns import MATCHED, choice_for, first_seen, worth_by_notes

SOME = ("some",)
TRUTHS = (("lit", ("truth", False)), ("lit", ("truth", True)))


def by_uppers(scope, kind):
    """A plain kind, with its upper in the place of a kind parameter or part; also in a with."""
    kind = plain(scope, stripped(scope, kind))
    if kind[0] == "with":
        return with_kinds(kind, [by_uppers(scope, part) for part in kinds_in(kind)])
    return kind


class ShapeKinds:
    """What is known of kinds that are matched, at a scope."""

    def __init__(self, scope, makers):
        self.scope = scope
        self.model = scope.model
        self.makers = makers
        self.known_classes = {}
        self.known_fields = {}

    def is_sealed(self, kind):
        """Whether a kind, by its uppers, is at or below a sealed one, or a with of such a part."""
        if kind[0] == "with":
            return any([self.is_sealed(part) for part in kind[1]])
        return kind[0] == "of" and self.model.is_below_sealed(kind[1])

    def is_closed(self, kind):
        """Whether shapes of a kind tell more than some: it is sealed, or truth."""
        return kind == ("truth",) or self.is_sealed(kind)

    def classes(self, kind):
        """The ascending classes that the shapes of a sealed kind can have."""
        key = repr(kind)
        if key not in self.known_classes:
            firsts = [names[0] for names in self.makers.news if new_meets(self.scope, names, kind)]
            self.known_classes[key] = [name for name in sorted(self.makers.names)
                                       if name in firsts or may_be_of(self.scope, name, kind)]
        return self.known_classes[key]

    def fields(self, kind, name):
        """The kinds of the vparams of a class, as they have to be for a kind, by their uppers."""
        key = repr((kind, name))
        if key not in self.known_fields:
            own = self.own_kind(kind, name)
            self.known_fields[key] = [self.field(own, told) for _, told in self.model.classes[name].vparams]
        return self.known_fields[key]

    def own_kind(self, kind, name):
        """The kind of a class as it has to be for a kind."""
        seen = first_seen(self.model, kind, name)
        return ("of", name, self.kinds_for(kind, name)) if seen is None else seen

    def kinds_for(self, kind, name):
        """The kind arguments of a class as they have to be for a kind, else their uppers."""
        choice, holds = choice_for(self.scope, kind, name)
        kinds = {}
        for kparam, (free, upper) in zip(self.model.classes[name].kparams, choice.kparams):
            notes = choice.notes[free] if holds else []
            worth = worth_by_notes(self.scope, notes, kparam[1]) if notes else None
            if worth is None or worth == ("upper",):
                worth = changed(upper, kinds, {})
            kinds[free] = worth
        return tuple([kinds[free] for free, _ in choice.kparams])

    def field(self, own, kind):
        """The kind of a vparam of a class's kind, parts of this being their uppers."""
        inner = self.scope.with_phantom(MATCHED, own)
        told = seen_kind(self.model, own, own[1], kind, (MATCHED,))
        return by_uppers(self.scope, without_matched(inner, plain(inner, told), ()))


def without_matched(inner, kind, asked):
    """A plain kind with the uppers of parts of what is matched in their place."""
    if kind[0] != "part":
        return with_kinds(kind, [without_matched(inner, one, asked) for one in kinds_in(kind)])
    if kind[1][0] != MATCHED:
        return kind
    if kind in asked:
        return ("any",)
    upper = plain(inner, part_told(inner, kind, ())[1])
    return without_matched(inner, upper, asked + (kind,))
