"""The first round of point 12: names, classes, numbers, what is above, and orders."""

from linearmix.breaches import class_disorder, first_disorder, parent_breaches
from linearmix.calling import super_def
from linearmix.insides import classes_in_pattern, names_in_pattern, walk
from linearmix.kindtools import all_kinds
from linearmix.model import NAMELESS
from linearmix.sites import bodies_in, sites_of

OBJECTS = ("class", "object")


def kind_words(scope, kind):
    """The words for what is wrong with a kind by names alone."""
    words = []
    for one in all_kinds(kind):
        if one[0] == "var" and one[1] not in scope.uppers:
            words.append("name")
        if one[0] == "part" and not scope.has_start(one[1][0]):
            words.append("name")
        if one[0] == "of":
            entry = scope.model.classes.get(one[1])
            if entry is None:
                words.append("class")
            elif len(entry.kparams) != len(one[2]):
                words.append("arguments")
    return words


def has_twice(names):
    """Whether a name stands twice among some."""
    return any([names.count(name) > 1 for name in names])


def views_differ(model, name):
    """Whether a class sees one above it as two kinds that are not equal."""
    return any([len(views) > 1 for views in model.all_views(name).values()])


def takes_vparams(model, name):
    """Whether a class at or below a sealed one has a class with vparams above it."""
    return (model.is_below_sealed(name)
            and any([model.classes[one].vparams != () for one in model.above(name)]))


def class_words(model, entry):
    """The words for what is wrong with a class, told at (class,), but for its kinds."""
    words = parent_breaches(model, entry)
    for parent, _, worths in entry.parents:
        if parent in model.classes and len(worths) != len(model.classes[parent].vparams):
            words.append("arguments")
    if model.has_round(entry.name):
        return words
    if views_differ(model, entry.name):
        words.append("above")
    if entry.word in OBJECTS and takes_vparams(model, entry.name):
        words.append("above")
    if class_disorder(model, entry.name) is not None:
        words.append("order")
    return words


def twofold_at(definition):
    """The wheres of a definition at which a name stands twice among params and wants."""
    name = definition[1]
    if definition[0] == "given":
        return [(name,)] if has_twice([want for want, _ in definition[3]]) else []
    wheres = []
    members = definition[-1] if definition[0] in ("object", "extend") else definition[-2]
    if definition[0] == "extend":
        names = [definition[3][0]] + [want for want, _ in definition[4]]
        wheres = [(name,)] if has_twice(names) else []
    for member in members:
        if member[0] == "def" and has_twice([one[0] for one in member[3] + member[4]]):
            wheres.append((name, member[1]))
    return wheres


def new_words(scope, parts):
    """The words for what is wrong with the parts of a new, but for their kinds."""
    model = scope.model
    names = [part[0] for part in parts]
    words = ["above"] if has_twice(names) else []
    for at, (name, _, worths) in enumerate(parts):
        if name not in model.classes:
            continue
        entry = model.classes[name]
        if entry.word != ("trait" if at else "class"):
            words.append("above")
        if at and model.is_below_sealed(name):
            words.append("above")
        if len(worths) != len(entry.vparams):
            words.append("arguments")
    known = all([name in model.classes and not model.has_round(name) for name in names])
    if known and not words:
        parents = tuple([(name, scope.inward(("of", name, kinds))[2], ()) for name, kinds, _ in parts])
        nameless = model.with_nameless(parents)
        if views_differ(nameless, NAMELESS):
            words.append("above")
        if first_disorder(model.mixed_order(names), [model.order(name) for name in names]) is not None:
            words.append("order")
    return words


def tree_words(scope, e):
    """The words for what is wrong with a tree itself, as far as no kind has to be found for it."""
    word = e[0]
    if word == "name":
        return [] if e[1] != "this" and scope.has_start(e[1]) else ["name"]
    if word == "this":
        return [] if scope.this is not None else ["name"]
    if word == "super":
        missing = scope.this is None or super_def(scope.model, scope.this[1], e[1]) is None
        return (["name"] if missing else []) + kinds_words(scope, e[2] or ())
    if word == "call":
        return kinds_words(scope, e[3] or ())
    if word == "new":
        return new_words(scope, e[1]) + kinds_words(scope, [("of", part[0], part[1]) for part in e[1]])
    if word == "fun":
        twice = ["name"] if has_twice([name for name, _ in e[1]]) else []
        return twice + kinds_words(scope, [kind for _, kind in e[1]])
    if word in ("let", "lazy", "given"):
        return kinds_words(scope, [] if e[2] is None else [e[2]])
    if word == "summon":
        return kinds_words(scope, [e[1]])
    if word == "match":
        return match_words(scope, e)
    return []


def kinds_words(scope, kinds):
    """The words for what is wrong with kinds by names alone."""
    return [word for kind in kinds for word in kind_words(scope, kind)]


def match_words(scope, e):
    """The words for what is wrong with the patterns of a match by names alone."""
    words = []
    for pattern, _ in e[2]:
        if has_twice(names_in_pattern(pattern)):
            words.append("name")
        if not all([name in scope.model.classes for name in classes_in_pattern(pattern)]):
            words.append("class")
    return words


def tree_faults(scope, e, where):
    """The (where, word) of the first round for an expression."""
    return [(at, word) for at, tree, reach in walk(scope, e, where) for word in tree_words(reach, tree)]


def definition_faults(model, definition):
    """The (where, word) of the first round for a definition."""
    name = definition[1]
    rows = [(site.where, word) for site in sites_of(model, definition)
            for word in kind_words(site.scope, site.kind)]
    rows.extend([(where, "name") for where in twofold_at(definition)])
    if definition[0] not in ("given", "extend"):
        rows.extend([((name,), word) for word in class_words(model, model.classes[name])])
    for body in bodies_in(model, definition):
        rows.extend(tree_faults(body.scope, body.e, body.where))
    return rows

