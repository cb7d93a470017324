"""Decision trees for patterns (point 24).

Questions are asked of what stands deepest first: so all that is asked of the vparams
of a class is asked ahead of another class at that place, behind which they are not
to be had any more.
"""

from linearmix.treestate import State
from linearmix.values import Values, literals_of


class Decider:
    """Makes the decision tree of patterns for a kind."""

    def __init__(self, scope, makers, kind, patterns):
        self.patterns = patterns
        self.start = State(Values(scope, makers, literals_of(patterns)))
        self.spot = ((), kind)

    def tree(self):
        """The decision tree."""
        return self.built(self.start, list(range(len(self.patterns))))

    def built(self, state, rows):
        """The tree for the values of a state, of which those patterns alone may take some."""
        rows = [row for row in rows if state.takes_some(self.patterns[row], self.spot)]
        if not rows:
            return ("none",)
        if state.takes_all(self.patterns[rows[0]], self.spot):
            return ("leaf", rows[0])
        questions = []
        for row in rows:
            questions.extend(open_questions(state, self.spot, self.patterns[row]))
        deepest = max([len(spot[0]) for spot, _ in questions])
        spot = [spot for spot, _ in questions if len(spot[0]) == deepest][0]
        asked = [pattern for one, pattern in questions if one[0] == spot[0]]
        return self.question(state, rows, spot, asked)

    def question(self, state, rows, spot, asked):
        """A question at a spot, for the first of patterns, or all literals of these."""
        word = "lit" if asked[0][0] == "lit" else "class"
        if word == "class":
            asked = asked[:1]
        pairs = []
        done = []
        for pattern in asked:
            if pattern[0] == "lit" and pattern in done or (pattern[0] == "lit") != (word == "lit"):
                continue
            done.append(pattern)
            yes, state = state.parted(spot, pattern)
            worth = pattern[1] if pattern[0] != "is" else pattern[2]
            pairs.append((worth, self.built(yes, rows)))
        rest = None if state.is_empty() else self.built(state, rows)
        return (word, tuple([number for _, number in spot[0]]), tuple(pairs), rest)


def open_questions(state, spot, pattern):
    """The (spot, pattern) that have to be asked to know whether a pattern takes a value."""
    if state.takes_all(pattern, spot):
        return []
    if pattern[0] != "of" or state.current.get(spot[0]) != pattern[1]:
        return [(spot, pattern)]
    return [row for one, inner in state.inner_rows(spot, pattern)
            for row in open_questions(state, one, inner)]
