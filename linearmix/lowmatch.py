"""Patterns lowered to c's: tests, and where the things stand that they bind."""


def field_cs(body, c, pattern):
    """The patterns within an "of", each with the c of its vparam, c being what is matched."""
    lowering = body.lowering
    vparams = lowering.model.classes[pattern[1]].vparams
    return [(("slot", c, lowering.slot(name)), inner)
            for inner, (name, _) in zip(pattern[2], vparams)]


def needs_test(pattern):
    """Whether a pattern does not take everything."""
    return pattern[0] not in ("any", "bind")


def test_of(body, c, pattern):
    """The c that tells whether a pattern takes what a c is; None if it takes everything."""
    if not needs_test(pattern):
        return None
    if pattern[0] == "lit":
        return ("op", "=", c, pattern[1])
    if pattern[0] == "is":
        return ("among", c, body.lowering.tables_of(pattern[2]))
    if not any([needs_test(inner) for inner in pattern[2]]):
        return ("among", c, body.lowering.tables_of(pattern[1]))
    if c[0] == "local":
        return fields_test(body, c, pattern)
    number = body.local()
    return ("let", number, c, fields_test(body, ("local", number), pattern))


def fields_test(body, c, pattern):
    """The test of an "of" with patterns that do not take everything; c is a local."""
    tests = [("among", c, body.lowering.tables_of(pattern[1]))]
    for inner_c, inner in field_cs(body, c, pattern):
        if needs_test(inner):
            tests.append(test_of(body, inner_c, inner))
    told = tests.pop()
    for test in reversed(list(tests)):
        told = ("if", test, told, ("truth", False))
    return told


def bound_paths(body, c, pattern):
    """The names that a pattern binds, each with the c of what it is."""
    if pattern[0] in ("bind", "is"):
        return [(pattern[1], c)]
    if pattern[0] == "of":
        return [row for inner_c, inner in field_cs(body, c, pattern)
                for row in bound_paths(body, inner_c, inner)]
    return []
