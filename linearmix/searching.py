"""The search for givens (point 21), and what evidence is right (point 22)."""

from linearmix.faults import Endless
from linearmix.holding import FREE, Choice, freed
from linearmix.kindtools import changed
from linearmix.model import form_of
from linearmix.parting import plain, seen_kind
from linearmix.sites import GivenView

WITHIN_MOST = 12
SEARCHES_MOST = 200
EVIDENCE_MOST = 200

# What a want ahead is in the kinds of those behind it.
WANTED = "~want"


class Candidate:
    """A given that may be found: what is told of it, its kind, its wants, its class's place."""

    def __init__(self, label, kparams, wants, kind, nearness):
        self.label = label
        self.kparams = kparams
        self.wants = wants
        self.kind = kind
        self.nearness = nearness

    def freed_by(self, mark):
        """The kind parameters with a mark ahead, and the table that puts them in."""
        table = freed(self.kparams, mark)
        return [(mark + name, changed(upper, table, {})) for name, upper in self.kparams], table


def levels_at(scope, without):
    """The levels of candidates around a place; without is the name of no candidate."""
    levels = []
    taken = []
    for name, inner in reversed(list(scope.lets)):
        if name not in taken:
            levels.append([bound_candidate(scope, name, inner)])
        taken.append(name)
    wants = [(name, inner) for name, inner in scope.wants if name not in taken]
    levels.append([bound_candidate(scope, name, inner) for name, inner in wants])
    taken.extend([name for name, _ in scope.wants])
    levels.append(own_candidates(scope))
    views = [GivenView(scope.model, definition) for definition in scope.model.definitions
             if definition[0] == "given" and definition[1] != without]
    levels.append([Candidate(view.name, view.kparams, view.wants, visible_kind(scope, view.kind), 0)
                   for view in views if view.name not in taken])
    return [[one for one in level if one.kind is not None] for level in levels]


def visible_kind(scope, kind):
    """A kind as it can be told at a place; None if it names what is hidden there."""
    if not scope.hides(kind):
        return kind
    told = plain(scope, kind)
    return None if scope.hides(told) else told


def bound_candidate(scope, name, inner):
    """The candidate for a given of a let, or a want."""
    return Candidate(name, [], [], visible_kind(scope, scope.bound[inner].kind), 0)


def own_candidates(scope):
    """The candidates for the given members of this."""
    if scope.this is None:
        return []
    found = []
    order = scope.model.order(scope.this[1])
    for name in scope.model.member_names(order):
        owner = scope.model.first_body(order, name)
        if owner is None:
            continue
        member = scope.model.classes[owner].table[name]
        if form_of(member) == "given":
            kind = seen_kind(scope.model, scope.this, owner, member[2], None)
            found.append(Candidate(("this", name), [], [], visible_kind(scope, kind),
                                   order.index(owner)))
    return found


class Searcher:
    """Searches for givens from one place."""

    def __init__(self, scope, without):
        self.scope = scope
        self.levels = levels_at(scope, without)
        self.active = []
        self.used = []
        self.finished = {}
        self.many = 0
        self.first_kind = None
        self.first_none = None

    def outcome(self, kind):
        """What find_given tells of a kind, with inner names."""
        self.first_kind = kind
        try:
            told = self.search(kind)
        except Endless as endless:
            return ("endless", endless.kind)
        if told[0] == "none":
            return ("none", self.first_none)
        return told[:2]

    def search(self, kind):
        """("found", evidence, its size), ("none",), or ("ambiguous", givens)."""
        worth = plain(self.scope, kind)
        key = repr(worth)
        place = (key, repr(sorted(set(self.active))))
        if place in self.finished:
            return self.finished[place]
        if len(self.active) == WITHIN_MOST or self.many == SEARCHES_MOST:
            raise Endless(kind)
        self.many += 1
        self.active.append(key)
        told = self.search_levels(kind, worth, key)
        self.active.pop()
        self.finished[place] = told
        return told

    def search_levels(self, kind, worth, key):
        """The result of a search by the first level that has a given that fits."""
        for level in self.levels:
            fits = []
            for candidate in level:
                if (candidate.label, key) not in self.used:
                    self.used.append((candidate.label, key))
                    evidence = self.fit(candidate, worth)
                    self.used.pop()
                    if evidence is not None:
                        fits.append((candidate,) + evidence)
            if fits:
                return self.picked(fits)
        if self.first_none is None:
            self.first_none = kind
        return ("none",)

    def fit(self, candidate, worth):
        """The evidence that a candidate is, with its size; None if it does not fit."""
        kinds = chosen_for(self.scope, candidate, worth)
        if kinds is None:
            return None
        evidences = []
        size = 1
        for at in range(len(candidate.wants)):
            want = want_kind(self.scope, candidate, kinds, at)
            told = ("none",) if want is None else self.search(want)
            if told[0] != "found":
                return None
            evidences.append(told[1])
            size += told[2]
        if size > EVIDENCE_MOST:
            raise Endless(self.first_kind)
        return (candidate.label, kinds, tuple(evidences)), size

    def picked(self, fits):
        """The evidence that wins over each other one, or the first two that do not."""
        at = winner(self.scope, [fit[0] for fit in fits])
        if at is not None:
            return ("found", fits[at][1], fits[at][2])
        first, second = first_unsettled(self.scope, [fit[0] for fit in fits])
        return ("ambiguous", (first.label, second.label))


def winner(scope, candidates):
    """The index of the candidate that wins over each other one; None if none does."""
    for at, one in enumerate(candidates):
        others = candidates[:at] + candidates[at + 1:]
        if all([wins(scope, one, other) for other in others]):
            return at
    return None


def first_unsettled(scope, candidates):
    """The first two of which neither wins over the other, else the first two."""
    for at, one in enumerate(candidates):
        for other in candidates[at + 1:]:
            if not wins(scope, one, other) and not wins(scope, other, one):
                return one, other
    return candidates[0], candidates[1]


def wins(scope, one, other):
    """Whether a candidate wins over another one of its level."""
    down, up = is_as_special(scope, one, other), is_as_special(scope, other, one)
    if down != up:
        return down
    return one.nearness < other.nearness


def is_as_special(scope, one, other):
    """Whether, by some choice for the other one, its kind is the same as the first one's or above."""
    rigid, rigid_table = one.freed_by(FREE + FREE)
    for name, upper in rigid:
        scope = scope.with_upper(name, upper)
    free, table = other.freed_by(FREE)
    choice = Choice(scope, free)
    return (choice.holds(changed(one.kind, rigid_table, {}), changed(other.kind, table, {}))
            and choice.chosen()[0] == "chosen")


def chosen_for(scope, candidate, kind):
    """The kinds chosen for a candidate from a plain wanted kind alone; None if it is not of it."""
    free, table = candidate.freed_by(FREE)
    choice = Choice(scope, free)
    if not choice.holds(changed(candidate.kind, table, {}), kind) or not choice.is_noted():
        return None
    word, kinds = choice.chosen()
    return kinds if word == "chosen" else None


def want_kind(scope, candidate, kinds, at):
    """The kind of a want, the chosen kinds put in; None if it still names a want ahead."""
    table = {kparam[0]: kind for kparam, kind in zip(candidate.kparams, kinds)}
    starts = {}
    for number in range(at + 1):
        inner, kind = candidate.wants[number]
        told = changed(kind, table, starts)
        phantom = WANTED + str(number)
        scope = scope.with_phantom(phantom, told)
        starts[inner] = (phantom,)
    if not scope.hides(told):
        return told
    told = plain(scope, told)
    return None if scope.hides(told) else told
