"""Below papers: how a kind is below another one, told step by step (point 16)."""

from linearmix.kindtools import ANY, NONE, kinds_in, with_kinds
from linearmix.lower import asked_pairs
from linearmix.parting import told_or_none, upper_of
from linearmix.scopes import outward


def exchanges(scope, kind):
    """The kinds that one comes to be, if one part of it is exchanged for what it is the same as."""
    if kind[0] == "part":
        told = told_or_none(scope, kind)
        return [told[1]] if told is not None and told[0] == "same" else []
    found = []
    inner = kinds_in(kind)
    for at, one in enumerate(inner):
        for other in exchanges(scope, one):
            found.append(with_kinds(kind, inner[:at] + [other] + inner[at + 1:]))
    return found


def alias_pairs(scope, one, other):
    """All pairs that an alias may lead to."""
    firsts = [(first, other) for first in exchanges(scope, one)]
    return firsts + [(one, second) for second in exchanges(scope, other)]


def made_paper(scope, one, other, asked):
    """A paper for two kinds; None, if the one is not below the other."""
    steps = alias_pairs(scope, one, other)
    if steps:
        inner = made_paper(scope, steps[0][0], steps[0][1], asked)
        return None if inner is None else (one, other, "alias", (inner,))
    if other == ANY:
        return (one, other, "any", ())
    if one == NONE:
        return (one, other, "none", ())
    if one == other:
        return (one, other, "equal", ())
    if (one, other) in asked:
        return None
    return paper_by_rules(scope, one, other, asked + ((one, other),))


def paper_by_rules(scope, one, other, asked):
    """A paper by one of the rules that ask for something, in their sequence."""
    for word, rows in rule_rows(scope, one, other):
        for pairs in rows:
            papers = made_papers(scope, pairs, asked)
            if papers is not None:
                return (one, other, word, papers)
    return None


def made_papers(scope, pairs, asked):
    """The papers for pairs; None if one of them has none."""
    papers = []
    for first, second in pairs:
        paper = made_paper(scope, first, second, asked)
        if paper is None:
            return None
        papers.append(paper)
    return tuple(papers)


def rule_rows(scope, one, other):
    """For each rule whose shape fits its word and the lists of pairs, one of which it asks."""
    rows = []
    if other[0] == "with":
        rows.append(("each", [[(one, part) for part in other[1]]]))
    if one[0] == "with":
        rows.append(("part", [[(part, other)] for part in one[1]]))
    pairs = asked_pairs(scope, one, other)
    if pairs is not None:
        rows.append((one[0], [pairs]))
    upper = upper_of(scope, one)
    if upper is not None:
        rows.append(("upper", [[(upper, other)]]))
    return rows


def allowed_rows(scope, one, other, word):
    """The lists of pairs, one of which the papers of a node with a word have to be of."""
    if word == "any":
        return [[]] if other == ANY else []
    if word == "none":
        return [[]] if one == NONE else []
    if word == "equal":
        return [[]] if one == other else []
    if word == "alias":
        return [[pair] for pair in alias_pairs(scope, one, other)]
    return [pairs for at, rows in rule_rows(scope, one, other) if at == word for pairs in rows]


def paper_holds(scope, one, other, thing):
    """Whether any object is a right paper of two kinds, at each node by itself."""
    if not isinstance(thing, tuple) or len(thing) != 4:
        return False
    if thing[0] != outward(one) or thing[1] != outward(other) or not isinstance(thing[3], tuple):
        return False
    if not isinstance(thing[2], str):
        return False
    for pairs in allowed_rows(scope, one, other, thing[2]):
        if len(pairs) == len(thing[3]) and all([is_of_pair(paper, pair)
                                                for paper, pair in zip(thing[3], pairs)]):
            return all([paper_holds(scope, first, second, paper)
                        for paper, (first, second) in zip(thing[3], pairs)])
    return False


def is_of_pair(thing, pair):
    """Whether any object could be a node of two kinds."""
    return (isinstance(thing, tuple) and len(thing) == 4
            and thing[0] == outward(pair[0]) and thing[1] == outward(pair[1]))


def outward_paper(paper):
    """A paper with the kinds as they are told."""
    one, other, word, papers = paper
    return (outward(one), outward(other), word, tuple([outward_paper(inner) for inner in papers]))
