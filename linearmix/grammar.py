"""What may stand where in a program, as tables: the form of points 4 to 6.

A sort is a text that says what is wanted at a place. Its form is told by one
of four tables: OPTIONS (that, or None), LISTS (a tuple of so many alike),
ROWS (a tuple of these), FORMS (a tuple that begins with one of these words).
All other sorts are atoms: names (LETTERS), choices (CHOICES), number, text.
"""

# What may be None instead.
OPTIONS = {
    "kind or none": "kind",
    "tree or none": "tree",
    "kinds or none": "kinds",
    "givens or none": "givens",
}

# The sort of the first, that of the further ones, the least and the most.
LISTS = {
    "definitions": ("definition", "definition", 0, 20),
    "kinds": ("kind", "kind", 0, 6),
    "parent kinds": ("kind", "kind", 0, 6),
    "kinds of with": ("kind", "kind", 2, 6),
    "path": ("path start", "path step", 1, 3),
    "trees": ("tree", "tree", 0, 6),
    "no trees": ("tree", "tree", 0, 0),
    "givens": ("tree", "tree", 0, 12),
    "parts": ("part", "further part", 1, 6),
    "parents": ("parent", "further parent", 0, 6),
    "fun params": ("want", "want", 0, 6),
    "cases": ("case", "case", 1, 8),
    "patterns": ("pattern", "pattern", 0, 6),
    "signed kparams": ("signed kparam", "signed kparam", 0, 6),
    "kparams": ("kparam", "kparam", 0, 6),
    "def kparams": ("def kparam", "def kparam", 0, 6),
    "vparams": ("vparam", "vparam", 0, 6),
    "params": ("param", "param", 0, 6),
    "wants": ("want", "want", 0, 6),
    "members": ("member", "member", 0, 12),
    "extended members": ("extended member", "extended member", 0, 12),
}

# Parts and parents are alike, but what is in reach in them is not.
ROWS = {
    "program": ("definitions", "tree"),
    "part": ("class", "kinds", "trees"),
    "further part": ("class", "kinds", "no trees"),
    "parent": ("class", "parent kinds", "trees"),
    "further parent": ("class", "parent kinds", "no trees"),
    "case": ("pattern", "tree"),
    "signed kparam": ("kparam name", "sign", "kind"),
    "kparam": ("kparam name", "no sign", "kind"),
    "def kparam": ("def kparam name", "no sign", "kind"),
    "vparam": ("vparam name", "kind"),
    "param": ("bound", "kind", "truth"),
    "want": ("bound", "kind"),
}

# What stands behind the word, for each sort and word.
FORMS = {
    ("kind", "any"): (),
    ("kind", "none"): (),
    ("kind", "int"): (),
    ("kind", "truth"): (),
    ("kind", "text"): (),
    ("kind", "unit"): (),
    ("kind", "of"): ("class or object", "kinds"),
    ("kind", "var"): ("var",),
    ("kind", "part"): ("path", "kind member"),
    ("kind", "fun"): ("kinds", "kind"),
    ("kind", "with"): ("kinds of with",),
    ("tree", "int"): ("number",),
    ("tree", "text"): ("text",),
    ("tree", "truth"): ("truth",),
    ("tree", "unit"): (),
    ("tree", "name"): ("use",),
    ("tree", "this"): (),
    ("tree", "val"): ("tree", "member use"),
    ("tree", "call"): ("tree", "member use", "kinds or none", "trees", "givens or none"),
    ("tree", "super"): ("member use", "kinds or none", "trees", "givens or none"),
    ("tree", "new"): ("parts",),
    ("tree", "fun"): ("fun params", "tree"),
    ("tree", "apply"): ("tree", "trees"),
    ("tree", "if"): ("tree", "tree", "tree"),
    ("tree", "let"): ("bound", "kind or none", "tree", "tree"),
    ("tree", "lazy"): ("bound", "kind", "tree", "tree"),
    ("tree", "given"): ("bound", "kind", "tree", "tree"),
    ("tree", "match"): ("tree", "cases"),
    ("tree", "summon"): ("kind",),
    ("tree", "show"): ("tree",),
    ("tree", "then"): ("tree", "tree"),
    ("tree", "op"): ("op word", "tree", "tree"),
    ("tree", "stop"): ("text",),
    ("pattern", "any"): (),
    ("pattern", "bind"): ("bound",),
    ("pattern", "lit"): ("literal",),
    ("pattern", "is"): ("bound", "class or object"),
    ("pattern", "of"): ("class or object", "patterns"),
    ("literal", "int"): ("number",),
    ("literal", "text"): ("text",),
    ("literal", "truth"): ("truth",),
    ("definition", "trait"):
        ("big definition", "signed kparams", "parents", "members", "truth"),
    ("definition", "class"):
        ("big definition", "signed kparams", "vparams", "parents", "members", "truth"),
    ("definition", "object"): ("small definition", "parents", "members"),
    ("definition", "given"): ("small definition", "kparams", "wants", "kind", "tree"),
    ("definition", "extend"):
        ("small definition", "kparams", "want", "wants", "extended members"),
    ("member", "kind"): ("kind name", "kind", "kind or none"),
    ("member", "val"): ("member name", "kind", "tree or none"),
    ("member", "lazy"): ("member name", "kind", "tree"),
    ("member", "def"):
        ("member name", "def kparams", "params", "wants", "kind", "tree or none"),
    ("member", "given"): ("member name", "kind", "tree"),
    ("extended member", "def"):
        ("member name", "def kparams", "params", "wants", "kind", "tree"),
}

# The first letter of each sort of name.
LETTERS = {
    "class": "big",
    "class or object": "either",
    "var": "big",
    "kind member": "big",
    "path start": "small",
    "path step": "small",
    "use": "small",
    "member use": "small",
    "bound": "small",
    "big definition": "big",
    "small definition": "small",
    "kparam name": "big",
    "def kparam name": "big",
    "vparam name": "small",
    "kind name": "big",
    "member name": "small",
}

CHOICES = {
    "nothing": (None,),
    "truth": (True, False),
    "sign": ("", "+", "-"),
    "no sign": ("",),
    "op word": ("+", "-", "*", "<", "=", "and", "or", "join"),
}

# Names that have to be new: the books in which they may not stand yet, and
# those into which they are written.
BOOKS = {
    "big definition": (("program",), ("program",)),
    "small definition": (("program",), ("program",)),
    "kparam name": (("own",), ("own", "kparams")),
    "vparam name": (("own",), ("own",)),
    "kind name": (("own",), ("own",)),
    "member name": (("own",), ("own",)),
    "def kparam name": (("kparams", "def kparams"), ("def kparams",)),
}

# The books that are empty again where such a thing begins.
NEW_BOOKS = {
    "definition": ("own", "kparams"),
    "member": ("def kparams",),
    "extended member": ("def kparams",),
}

# The bounds of kinds, of trees and patterns within one another, and of these in all.
KINDS_DEEP = 6
TREES_DEEP = 20
TREES_MANY = 60

# All sorts that FORMS tells of.
FORM_SORTS = ("kind", "tree", "pattern", "literal", "definition", "member", "extended member")


def heads_of(sort):
    """The words that a tuple of the sort may begin with."""
    return [head for owner, head in FORMS if owner == sort]
