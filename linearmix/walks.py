"""What stands in a thing that is of its form, told with its sort."""

from linearmix.grammar import FORM_SORTS, FORMS, LISTS, OPTIONS, ROWS


def sorts_in(sort, thing):
    """The sorts of the parts of a tuple, one for each, the word ahead left out."""
    if sort in LISTS:
        first, further = LISTS[sort][:2]
        return [further if at else first for at in range(len(thing))]
    if sort in ROWS:
        return list(ROWS[sort])
    return list(FORMS[(sort, thing[0])])


def is_atom(sort):
    """Whether a thing of the sort has no parts; for no sort of OPTIONS."""
    return sort not in LISTS and sort not in ROWS and sort not in FORM_SORTS


def parts_in(sort, thing):
    """The parts of a tuple, one for each sort of sorts_in."""
    return list(thing[1:] if sort in FORM_SORTS else thing)


def all_within(sort, thing):
    """Each thing within a thing, itself too, as (sort, thing); None left out."""
    found = []
    rest = [(sort, thing)]
    while rest:
        at, one = rest.pop()
        if one is not None:
            at = OPTIONS.get(at, at)
            found.append((at, one))
            if not is_atom(at):
                rest.extend(list(zip(sorts_in(at, one), parts_in(at, one))))
    return found


def all_of(wanted, program):
    """All things of one sort in a program, in no told sequence."""
    return [thing for sort, thing in all_within("program", program) if sort == wanted]
