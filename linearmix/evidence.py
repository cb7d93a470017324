"""Evidence that is right, found or not, and all evidence that there is (point 22)."""

from linearmix.errors import TooMany
from linearmix.parting import plain
from linearmix.scopes import outward
from linearmix.searching import EVIDENCE_MOST, Searcher, chosen_for, want_kind

TOLD_MOST = 200
LEVELS_MOST = 4


def outward_evidence(evidence):
    """An evidence with the kinds as they are told."""
    label, kinds, evidences = evidence
    return (label, tuple([outward(kind) for kind in kinds]),
            tuple([outward_evidence(inner) for inner in evidences]))


class EvidenceCheck:
    """Looks whether objects are evidence from one place, counting the givens."""

    def __init__(self, scope):
        self.scope = scope
        searcher = Searcher(scope, None)
        self.candidates = [one for level in searcher.levels for one in level]
        self.many = 0

    def is_right(self, kind, thing):
        """Whether any object is evidence for a kind, right at each step."""
        self.many += 1
        if self.many > EVIDENCE_MOST or not isinstance(thing, tuple) or len(thing) != 3:
            return False
        for candidate in self.candidates:
            if thing[0] == candidate.label:
                return self.is_right_for(candidate, kind, thing)
        return False

    def is_right_for(self, candidate, kind, thing):
        """The same for a candidate that the object names."""
        kinds = chosen_for(self.scope, candidate, plain(self.scope, kind))
        if kinds is None or thing[1] != tuple([outward(one) for one in kinds]):
            return False
        if not isinstance(thing[2], tuple) or len(thing[2]) != len(candidate.wants):
            return False
        for at, inner in enumerate(thing[2]):
            want = want_kind(self.scope, candidate, kinds, at)
            if want is None or not self.is_right(want, inner):
                return False
        return True


class AllEvidence:
    """Tells all evidence from one place."""

    def __init__(self, scope):
        self.scope = scope
        searcher = Searcher(scope, None)
        self.candidates = [one for level in searcher.levels for one in level]
        self.kept = {}

    def told(self, kind, asked):
        """All evidence for a kind within others; one more than may be told, if there are more."""
        worth = plain(self.scope, kind)
        if worth in asked or len(asked) == LEVELS_MOST:
            return []
        place = (repr(worth), repr(asked))
        if place not in self.kept:
            found = []
            for candidate in self.candidates:
                if len(found) <= TOLD_MOST:
                    found.extend(self.by(candidate, worth, asked + (worth,)))
            self.kept[place] = found[:TOLD_MOST + 1]
        return self.kept[place]

    def by(self, candidate, kind, asked):
        """All evidence for a plain kind that begins with a candidate."""
        kinds = chosen_for(self.scope, candidate, kind)
        if kinds is None:
            return []
        ways = []
        for at in range(len(candidate.wants)):
            want = want_kind(self.scope, candidate, kinds, at)
            inner = [] if want is None else self.told(want, asked)
            if not inner:
                return []
            ways.append(inner)
        rows = [()]
        for inner in ways:
            rows = [row + (one,) for row in rows for one in inner][:TOLD_MOST + 1]
        return [(candidate.label, kinds, row) for row in rows]


def evidence_place(evidence):
    """What evidence is sorted by: names go ahead of givens of this."""
    label, kinds, evidences = evidence
    own = (1, label[1]) if isinstance(label, tuple) else (0, label)
    return (own, kinds, tuple([evidence_place(inner) for inner in evidences]))


def sorted_evidence(scope, kind):
    """All evidence for a kind, ascending; TooMany if there is more than is told."""
    found = AllEvidence(scope).told(kind, ())
    if len(found) > TOLD_MOST:
        raise TooMany("there is more evidence than is told")
    return sorted([outward_evidence(one) for one in found], key=evidence_place)
