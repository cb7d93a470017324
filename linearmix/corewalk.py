"""What stands in c's, and c's made anew (point 31)."""

# What stands behind the word of a c; "body", "table" and "single" are numbers of these.
CFORMS = {
    "int": ("integer",),
    "text": ("text",),
    "truth": ("truth",),
    "unit": (),
    "local": ("local",),
    "slot": ("c", "number"),
    "fill": ("number", "c", "c"),
    "send": ("c", "selector", "cs"),
    "direct": ("body", "cs"),
    "make": ("table", "cs"),
    "single": ("single",),
    "late": ("c",),
    "now": ("c",),
    "once": ("label", "c"),
    "first": ("c",),
    "fun": ("local numbers", "c"),
    "apply": ("c", "cs"),
    "if": ("c", "c", "c"),
    "let": ("new local", "c", "c"),
    "among": ("c", "tables"),
    "show": ("c",),
    "then": ("c", "c"),
    "op": ("op word", "c", "c"),
    "stop": ("stop word", "c"),
}


def cs_in(c):
    """The c's directly in a c, in their sequence."""
    found = []
    for sort, part in zip(CFORMS[c[0]], c[1:]):
        if sort == "c":
            found.append(part)
        elif sort == "cs":
            found.extend(part)
    return found


def with_cs(c, inner):
    """A c with others in the place of those directly in it."""
    rest = list(inner)
    parts = [c[0]]
    for sort, part in zip(CFORMS[c[0]], c[1:]):
        if sort == "c":
            parts.append(rest.pop(0))
        elif sort == "cs":
            parts.append(tuple(rest[:len(part)]))
            rest = rest[len(part):]
        else:
            parts.append(part)
    return tuple(parts)


def all_cs(c):
    """A c and all c's in it, at every depth, the outer ahead of the inner, from the left."""
    found = []
    rest = [c]
    while rest:
        one = rest.pop()
        found.append(one)
        rest.extend(list(reversed(list(cs_in(one)))))
    return found


def rebuilt(c, change):
    """A c in which each c, inner ones first, is what a function makes of it; without nesting."""
    tasks = [(True, c)]
    done = []
    while tasks:
        is_begin, one = tasks.pop()
        if is_begin:
            tasks.append((False, one))
            tasks.extend([(True, inner) for inner in reversed(list(cs_in(one)))])
        else:
            start = len(done) - len(cs_in(one))
            told = change(with_cs(one, done[start:]))
            del done[start:]
            done.append(told)
    return done[0]
