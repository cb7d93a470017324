"""Trees within trees, from the outermost and left on, with what is in reach of them."""

from linearmix.kindtools import ANY


def names_in_pattern(pattern):
    """The names that a pattern binds, in their sequence."""
    if pattern[0] in ("bind", "is"):
        return [pattern[1]]
    if pattern[0] == "of":
        return [name for inner in pattern[2] for name in names_in_pattern(inner)]
    return []


def classes_in_pattern(pattern):
    """The names of classes that stand in a pattern."""
    if pattern[0] == "is":
        return [pattern[2]]
    if pattern[0] == "of":
        return [pattern[1]] + [name for inner in pattern[2] for name in classes_in_pattern(inner)]
    return []


def patterns_in(pattern):
    """A pattern and all patterns in it."""
    if pattern[0] != "of":
        return [pattern]
    return [pattern] + [one for inner in pattern[2] for one in patterns_in(inner)]


def inner_trees(e):
    """The expressions directly in one, each with the names that the one brings into its reach."""
    word = e[0]
    if word in ("val", "show"):
        return [(e[1], [])]
    if word == "call":
        return plain_rows([e[1]], e[4], e[5] or ())
    if word == "super":
        return plain_rows([], e[3], e[4] or ())
    if word == "new":
        return plain_rows([], e[1][0][2], ())
    if word == "apply":
        return plain_rows([e[1]], e[2], ())
    if word == "fun":
        return [(e[2], [name for name, _ in e[1]])]
    if word in ("if", "then"):
        return plain_rows([], e[1:], ())
    if word == "op":
        return plain_rows([], e[2:], ())
    if word in ("let", "lazy", "given"):
        return [(e[3], []), (e[4], [e[1]])]
    if word == "match":
        return [(e[1], [])] + [(one, names_in_pattern(pattern)) for pattern, one in e[2]]
    return []


def plain_rows(first, second, third):
    """Expressions that no names are brought into reach of."""
    return [(e, []) for e in list(first) + list(second) + list(third)]


def walk(scope, e, where):
    """Each tree of an expression as (where, tree, scope); names brought by it are unknown."""
    rows = [(where, e, scope)]
    for at, (inner, names) in enumerate(inner_trees(e)):
        reach = scope
        for name in names:
            reach = reach.with_name(name, "unknown", ANY)
        rows.extend(walk(reach, inner, where + (at,)))
    return rows
