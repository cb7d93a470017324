"""Another name for a definition, in each place that means it."""

from linearmix.grammar import FORM_SORTS, OPTIONS
from linearmix.walks import all_within, is_atom, parts_in, sorts_in

# The sorts of names by which each sort of definition is told or meant.
MEANT = {
    "trait": ("big definition", "class", "class or object"),
    "class": ("big definition", "class", "class or object"),
    "object": ("small definition", "class or object", "use", "path start"),
    "given": ("small definition",),
    "extend": ("small definition",),
}

# For forms and rows, by sort and word: (part, part in which its names are in
# reach), parts counted from 0 behind the word. Lists of OWN_REACH also bring
# the names of each of theirs into reach of those behind it.
REACH = {
    ("tree", "let"): ((0, 3),),
    ("tree", "lazy"): ((0, 3),),
    ("tree", "given"): ((0, 3),),
    ("tree", "fun"): ((0, 1),),
    ("case", ""): ((0, 1),),
    ("definition", "class"): ((2, 3),),
    ("definition", "given"): ((2, 4),),
    ("definition", "extend"): ((2, 3), (2, 4), (3, 4)),
    ("member", "def"): ((2, 3), (2, 4), (2, 5), (3, 4), (3, 5)),
    ("extended member", "def"): ((2, 3), (2, 4), (2, 5), (3, 4), (3, 5)),
}
OWN_REACH = ("params", "wants")

# Here only objects are in reach, whatever is so around it: in uppers of a
# def's kparams, and in the kinds of parents, but not in their args.
OBJECTS_ALONE = ("def kparams", "parent kinds")

# What brings names into reach, and by what nearer ones hide an object.
BROUGHT = ("bound", "vparam name")
HIDDEN = ("use", "path start")


class Renaming:
    """Gives a definition, told by its first word and its name, another name."""

    def __init__(self, word, name, other):
        self.meant = MEANT[word]
        self.name = name
        self.other = other

    def changed(self, sort, thing, hidden):
        """The thing with the other name; hidden: something nearer has the old one."""
        if thing is None:
            return None
        sort = OPTIONS.get(sort, sort)
        if is_atom(sort):
            return self.other if self.is_meant(sort, thing, hidden) else thing
        parts = parts_in(sort, thing)
        sorts = sorts_in(sort, thing)
        hides = self.hides(sort, thing, hidden)
        new = [self.changed(sorts[at], parts[at], hides[at]) for at in range(len(parts))]
        return thing[:len(thing) - len(parts)] + tuple(new)

    def is_meant(self, sort, thing, hidden):
        """Whether an atom is a name that means the definition."""
        if thing != self.name or sort not in self.meant:
            return False
        return not (hidden and sort in HIDDEN)

    def hides(self, sort, thing, hidden):
        """For each part of a tuple, whether something nearer has the name there."""
        parts = parts_in(sort, thing)
        sorts = sorts_in(sort, thing)
        hides = [hidden and sort not in OBJECTS_ALONE for _ in parts]
        if sort in OWN_REACH:
            for at in range(1, len(parts)):
                hides[at] = hides[at - 1] or self.brings(sorts[at - 1], parts[at - 1])
        for start, end in REACH.get((sort, word_of(sort, thing)), ()):
            if self.brings(sorts[start], parts[start]):
                hides[end] = True
        return hides

    def brings(self, sort, thing):
        """Whether the name is among those that a thing brings into reach."""
        return self.name in [one for at, one in all_within(sort, thing) if at in BROUGHT]


def word_of(sort, thing):
    """The word that a form begins with, "" for all else."""
    return thing[0] if sort in FORM_SORTS else ""


def with_other_name(program, name, other):
    """The program in which a definition, and what means it, has another name."""
    word = [definition[0] for definition in program[0] if definition[1] == name][0]
    return Renaming(word, name, other).changed("program", program, False)
