"""What a program is by its form, and what is told of names and sizes of one."""

from linearmix.atoms import is_big, is_integer, is_name
from linearmix.errors import BadName, BadOrder, Clash, NoName
from linearmix.grammar import LETTERS
from linearmix.renaming import with_other_name
from linearmix.trees import is_form, need_program
from linearmix.walks import all_of, all_within

# Where the x of a tree stands in it.
X_PLACES = {"name": 1, "val": 2, "call": 2, "super": 1}


def is_program(thing):
    """Whether any object is a program by its form."""
    return is_form("program", thing)


def names_of(program):
    """The ascending list of the x of all names, vals, calls and supers."""
    need_program(program)
    trees = all_of("tree", program)
    return sorted({tree[X_PLACES[tree[0]]] for tree in trees if tree[0] in X_PLACES})


def size_of(program):
    """How many trees all expressions of a program have."""
    need_program(program)
    return len(all_of("tree", program))


def renamed(program, name, other):
    """The program with another name for one of its definitions."""
    need_program(program)
    if not is_name(name):
        raise NoName("the object is no name")
    if not is_name(other):
        raise BadName("the other object is no name")
    if name not in [definition[1] for definition in program[0]]:
        raise NoName("no definition of the program has this name")
    if is_big(other) != is_big(name):
        raise BadName("the other name is of another sort of first letter")
    if other in all_names(program):
        raise Clash("the other name stands in the program")
    return with_other_name(program, name, other)


def all_names(program):
    """All names that stand anywhere in a program, of whatever sort."""
    return [thing for sort, thing in all_within("program", program) if sort in LETTERS]


def moved(program, numbers):
    """The program with its definitions in the sequence that the numbers tell."""
    need_program(program)
    definitions, main = program
    if not is_order(numbers, len(definitions)):
        raise BadOrder("the numbers are not those of the definitions, each once")
    return (tuple([definitions[number] for number in numbers]), main)


def is_order(thing, many):
    """Whether any object is a tuple of the numbers from 0 below many, each once."""
    if not isinstance(thing, tuple) or not all([is_integer(one) for one in thing]):
        return False
    return sorted(thing) == list(range(many))
