"""Whether any object is a decision tree that is right for patterns (point 24)."""

from linearmix.atoms import is_integer
from linearmix.trees import is_form
from linearmix.treestate import State
from linearmix.values import Values, literals_of


def literals_in(thing):
    """The literals that questions of any object ask for, if it is a decision tree."""
    found = []
    rest = [thing]
    while rest:
        one = rest.pop()
        if isinstance(one, tuple):
            if is_form("literal", one) and one not in found:
                found.append(one)
            rest.extend(list(one))
    return found


class TreeCheck:
    """Goes all ways through a decision tree with the values that can come there."""

    def __init__(self, scope, makers, kind, patterns):
        self.scope = scope
        self.makers = makers
        self.kind = kind
        self.patterns = patterns
        self.model = scope.model

    def holds(self, thing):
        """Whether any object is a right tree."""
        literals = literals_of(self.patterns) + literals_in(thing)
        return self.is_right(thing, State(Values(self.scope, self.makers, literals)))

    def is_right(self, thing, state):
        """Whether any object is a right tree for the values of a state."""
        if not isinstance(thing, tuple) or not thing or not isinstance(thing[0], str):
            return False
        if thing[0] == "leaf":
            return self.is_right_leaf(thing, state)
        if thing[0] == "none":
            return len(thing) == 1 and self.takes_none(len(self.patterns), state)
        if thing[0] not in ("class", "lit") or len(thing) != 4:
            return False
        spot = self.spot_of(thing[1], state)
        if spot is None or not isinstance(thing[2], tuple) or not thing[2]:
            return False
        return self.is_right_question(thing, spot, state)

    def is_right_leaf(self, thing, state):
        """Whether a leaf tells the first pattern that takes all values of a state."""
        if len(thing) != 2 or not is_integer(thing[1]) or not 0 <= thing[1] < len(self.patterns):
            return False
        if not self.takes_none(thing[1], state):
            return False
        return state.is_empty() or state.takes_all(self.patterns[thing[1]], ((), self.kind))

    def takes_none(self, many, state):
        """Whether the first so many patterns take no value of a state."""
        return state.is_empty() or not any([state.takes_some(pattern, ((), self.kind))
                                            for pattern in self.patterns[:many]])

    def spot_of(self, path, state):
        """The spot that any object leads to as a path; None if to none."""
        if not isinstance(path, tuple):
            return None
        spot = ((), self.kind)
        for number in path:
            name = state.current.get(spot[0])
            if name is None or not is_integer(number):
                return None
            if not 0 <= number < len(self.model.classes[name].vparams):
                return None
            spot = state.inner_spot(spot, name, number)
        return spot

    def is_right_question(self, thing, spot, state):
        """Whether a question at a spot, and the trees behind it, are right."""
        word, _, pairs, rest = thing
        for pair in pairs:
            if not isinstance(pair, tuple) or len(pair) != 2:
                return False
            pattern = self.asked_by(word, pair[0], spot[0], state)
            if pattern is None:
                return False
            yes, state = state.parted(spot, pattern)
            if not self.is_right(pair[1], yes):
                return False
        return state.is_empty() if rest is None else self.is_right(rest, state)

    def asked_by(self, word, thing, place, state):
        """The pattern that a question asks by for any object; None if it can not ask so."""
        if word == "lit":
            return ("lit", thing) if is_form("literal", thing) else None
        if not isinstance(thing, str) or thing not in self.model.classes:
            return None
        return None if thing in state.asked.get(place, ()) else ("is", "", thing)
