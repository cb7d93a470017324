"""One way through programs, by the tables, for trees and for texts alike."""

from linearmix.grammar import (BOOKS, FORM_SORTS, FORMS, KINDS_DEEP, LISTS, NEW_BOOKS,
                               OPTIONS, ROWS, TREES_DEEP, TREES_MANY)


class Reader:
    """Takes what stands in a source, as a sort wants it, and builds it anew.

    A source has: opens(), whether a tuple is next; is_over(), whether the
    tuple at hand has nothing more; enter() and leave(), into and out of a
    tuple; atom(sort, taken), the next atom, none of those taken; fail(),
    which raises. enter, leave and atom raise where something else stands.
    """

    def __init__(self, source):
        self.source = source
        self.books = {"program": {}, "own": {}, "kparams": {}, "def kparams": {}}
        self.kinds_deep = 0
        self.trees_deep = 0
        self.trees_many = 0

    def read(self, sort):
        """The next thing, of the sort."""
        if sort in OPTIONS:
            if not self.source.opens():
                return self.source.atom("nothing", [])
            sort = OPTIONS[sort]
        if sort in LISTS:
            return self.read_list(sort)
        if sort in ROWS:
            self.source.enter()
            return self.read_rest([], ROWS[sort])
        if sort in FORM_SORTS:
            return self.read_form(sort)
        if sort in BOOKS:
            return self.read_new_name(sort)
        return self.source.atom(sort, [])

    def read_list(self, sort):
        """A tuple of things that are alike, but perhaps for the first."""
        first, further, least, most = LISTS[sort]
        self.source.enter()
        items = []
        while len(items) < most and (len(items) < least or not self.source.is_over()):
            items.append(self.read(further if items else first))
        self.source.leave()
        return tuple(items)

    def read_rest(self, items, sorts):
        """The tuple that has been entered, with one more thing of each sort."""
        for sort in sorts:
            items.append(self.read(sort))
        self.source.leave()
        return tuple(items)

    def read_form(self, sort):
        """A tuple that begins with a word."""
        self.begin(sort)
        self.source.enter()
        head = self.source.atom(sort, [])
        form = self.read_rest([head], FORMS[(sort, head)])
        self.end(sort)
        return form

    def read_new_name(self, sort):
        """A name that may not stand in some books, and is written into some."""
        looked, written = BOOKS[sort]
        name = self.source.atom(sort, [old for book in looked for old in self.books[book]])
        for book in written:
            self.books[book][name] = True
        return name

    def begin(self, sort):
        """Counts what is bounded, and fails ahead of what is one too many."""
        for book in NEW_BOOKS.get(sort, ()):
            self.books[book] = {}
        if sort == "kind":
            if self.kinds_deep == KINDS_DEEP:
                self.source.fail()
            self.kinds_deep += 1
        if sort in ("tree", "pattern"):
            if self.trees_deep == 0:
                self.trees_many = 0
            if self.trees_deep == TREES_DEEP or self.trees_many == TREES_MANY:
                self.source.fail()
            self.trees_deep += 1
            self.trees_many += 1

    def end(self, sort):
        """Leaves what begin has counted as being under way."""
        if sort == "kind":
            self.kinds_deep -= 1
        if sort in ("tree", "pattern"):
            self.trees_deep -= 1
