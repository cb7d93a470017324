"""What is wrong with the parents of a class by point 9, and orders that do not agree."""

from linearmix.kindtools import starts_in, vars_in


def is_parent_kind(entry, kind):
    """Whether a kind argument of a parent is as it has to be."""
    if kind[0] == "var":
        return kind[1] in [kparam[0] for kparam in entry.kparams]
    return not vars_in(kind) and not starts_in(kind)


def parent_breaches(model, entry):
    """The words for what breaks point 9 in the parents of a class."""
    words = []
    names = [parent[0] for parent in entry.parents]
    for at, (name, kinds, _) in enumerate(entry.parents):
        if name not in model.classes:
            words.append("class")
            continue
        parent = model.classes[name]
        if parent.word == "class" and (at > 0 or entry.word == "trait"):
            words.append("above")
        if len(kinds) != len(parent.kparams):
            words.append("arguments")
        if not all([is_parent_kind(entry, kind) for kind in kinds]):
            words.append("kind")
    if any([names.count(name) > 1 for name in names]) or entry.name in model.above(entry.name):
        words.append("above")
    return words


def first_breach(model):
    """The name of the first class of which the parents break point 9; None if none."""
    for entry in model.classes.values():
        if parent_breaches(model, entry):
            return entry.name
    return None


def first_disorder(order, orders):
    """The first two names of an order that stand in one of others the other way round."""
    for at, first in enumerate(order):
        for second in order[at + 1:]:
            for other in orders:
                if (first in other and second in other
                        and other.index(second) < other.index(first)):
                    return (first, second)
    return None


def class_disorder(model, name):
    """The same for a class and the orders of its parents."""
    return first_disorder(model.order(name),
                          [model.order(one[0]) for one in model.parents_of(name)])
