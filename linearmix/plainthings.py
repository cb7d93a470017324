"""What runs by the plain rules go with beside integers, truths, texts and unit."""

from linearmix.things import Teller, told_plain


class Thing:
    """An object: the names of its parts, or the name it is defined by, its vals, lazies and givens."""

    def __init__(self, names, order, defined):
        self.names = names
        self.order = order
        self.defined = defined
        self.ready = {}
        self.onces = {}


class Fun:
    """A fun: its found tree, and what stood around it."""

    def __init__(self, node, env):
        self.node = node
        self.env = env


class ByName:
    """A param by name: the found tree of its expression, and what stood around it."""

    def __init__(self, node, env):
        self.node = node
        self.env = env


class Once:
    """What is worked at its first reading: what it is told as, the task, and what came of it."""

    def __init__(self, label, task):
        self.label = label
        self.task = task
        self.state = "fresh"
        self.worth = None


class Env:
    """What stands around an expression: this, the class of the body, names, and givens among them."""

    def __init__(self, this, owner, names, givens):
        self.this = this
        self.owner = owner
        self.names = names
        self.givens = givens

    def with_names(self, names):
        """The same with further names."""
        merged = dict(self.names)
        merged.update(names)
        return Env(self.this, self.owner, merged, self.givens)

    def with_given(self, name, worth):
        """The same with a given of a let."""
        givens = dict(self.givens)
        givens[name] = worth
        names = dict(self.names)
        names[name] = worth
        return Env(self.this, self.owner, names, givens)


class PlainTeller(Teller):
    """Tells things of runs by the plain rules; model is that of the program."""

    def __init__(self, model):
        super().__init__()
        self.model = model

    def fields_of(self, thing):
        """The name, the fields or None, and the further parts of an object; None of all else."""
        if not isinstance(thing, Thing):
            return None
        if thing.defined:
            return (thing.names[0], None, ())
        vparams = [name for name, _ in self.model.classes[thing.names[0]].vparams]
        return (thing.names[0], vparams, thing.names[1:])

    def field(self, thing, number):
        """A vparam of an object, which is always ready where the object is told."""
        return thing.ready[number]

    def told_other(self, thing):
        """What is told of a thing that is no object."""
        return "fun" if isinstance(thing, Fun) else told_plain(thing)
