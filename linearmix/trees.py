"""Any object as a source for the reader, and whether it is of a form."""

from linearmix.atoms import atom_fits
from linearmix.errors import BadForm
from linearmix.reader import Reader


class TreeSource:
    """An object that is gone through, from the left, as far as it fits."""

    def __init__(self, thing):
        self.tuples = [(thing,)]
        self.places = [0]

    def is_over(self):
        """Whether the tuple at hand has nothing more."""
        return self.places[-1] == len(self.tuples[-1])

    def opens(self):
        """Whether a tuple is next."""
        return not self.is_over() and isinstance(self.tuples[-1][self.places[-1]], tuple)

    def enter(self):
        """Goes into the tuple that is next."""
        if not self.opens():
            self.fail()
        inner = self.tuples[-1][self.places[-1]]
        self.places[-1] += 1
        self.tuples.append(inner)
        self.places.append(0)

    def leave(self):
        """Goes out of the tuple at hand, which has to be over."""
        if not self.is_over():
            self.fail()
        self.tuples.pop()
        self.places.pop()

    def atom(self, sort, taken):
        """The atom that is next, which has to be of the sort and not taken."""
        if self.is_over():
            self.fail()
        thing = self.tuples[-1][self.places[-1]]
        if not atom_fits(sort, thing) or thing in taken:
            self.fail()
        self.places[-1] += 1
        return thing

    def fail(self):
        """Tells that what is next can not stand."""
        raise BadForm("the object is not of the form that is wanted")


def need_form(sort, thing):
    """Raises BadForm, if an object is not of a sort's form."""
    Reader(TreeSource(thing)).read(sort)


def need_program(program):
    """Raises BadForm, if an object is no program."""
    need_form("program", program)


def is_form(sort, thing):
    """Whether any object is of a sort's form."""
    try:
        need_form(sort, thing)
    except BadForm:
        return False
    return True
