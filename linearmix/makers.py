"""What objects there can be: classes that can be made, objects, and parts of news."""

from linearmix.holding import FREE, Choice, freed, noted_both_ways
from linearmix.kindtools import ANY, changed, has_open
from linearmix.lower import is_lower, is_same
from linearmix.walks import all_within


def news_in(sort, thing):
    """The tuples of class names of the parts of all news in a thing of a sort."""
    return [tuple([part[0] for part in tree[1]]) for at, tree in all_within(sort, thing)
            if at == "tree" and tree[0] == "new"]


class Makers:
    """The classes and objects that can be made, and the orders of the news."""

    def __init__(self, model, more):
        self.model = model
        program = (model.definitions, model.main)
        self.names = [name for name, entry in model.classes.items()
                      if entry.word != "trait" and not model.missing_names(model.order(name))]
        self.news = []
        self.orders = []
        for names in news_in("program", program) + more:
            order = model.mixed_order(list(names))
            if names not in self.news:
                self.news.append(names)
            if order not in self.orders:
                self.orders.append(order)

    def can_meet(self, scope, kind, name):
        """Whether some object may be below a kind and of a class."""
        for maker in self.names:
            if name in self.model.order(maker) and may_be_of(scope, maker, kind):
                return True
        return any([name in self.model.mixed_order(list(names)) and new_meets(scope, names, kind)
                    for names in self.news])


def new_meets(scope, names, kind):
    """Whether a new of parts may be below a kind, by the classes of its parts, whatever their kinds."""
    if kind == ANY:
        return True
    if kind[0] == "with":
        return all([new_meets(scope, names, part) for part in kind[1]])
    return any([may_be_of(scope, name, kind) for name in names])


def may_be_of(scope, name, kind):
    """Whether objects of just a class may be below a kind, its kind parameters being what they may."""
    kparams = scope.model.classes[name].kparams
    table = freed(kparams, FREE)
    choice = Choice(scope, [(FREE + kparam[0], changed(kparam[2], table, {})) for kparam in kparams])
    if not choice.holds(("of", name, tuple(list(table.values()))), kind):
        return False
    known = {free: told for free, _ in choice.kparams for told in noted_both_ways(choice.notes[free])}
    return all([notes_agree(choice, free, changed(upper, known, {})) for free, upper in choice.kparams])


def notes_agree(choice, name, upper):
    """Whether some kind is as all notes of a kind parameter, and its upper, have it."""
    notes = choice.notes[name]
    above = [kind for way, kind in notes if way != "below"]
    below = [kind for way, kind in notes if way != "above"]
    both = noted_both_ways(notes)
    if not has_open(upper, choice.free):
        below.append(upper)
    if not all([is_same(choice.scope, both[0], kind) for kind in both]):
        return False
    return all([is_lower(choice.scope, kind, other) for kind in above for other in below])
