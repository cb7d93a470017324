"""Rings of what is worked once: lazies, objects and givens that ask for one another (point 39)."""

from linearmix.errors import TooMany
from linearmix.reached import Reached, Reading
from linearmix.scripts import is_single

RINGS_MOST = 200


class Asking(Reading):
    """What one that is worked once asks for: others of these, which are not gone into."""

    def __init__(self, script, made):
        super().__init__(script, made)
        self.asked = {}

    def asked_by(self, where):
        """The rows of what one asks for, told by where it stands; (name,) for objects, too."""
        if self.model.is_object(where[0]) and len(where) == 1:
            self.add_made(where)
        else:
            self.rest.append(where)
        self.read_all()
        return sorted(list(self.asked))

    def add(self, where):
        """A body is reached; of one that is worked once it is only noted."""
        if len(where) == 2 and isinstance(where[1], str) and where[0] in self.model.classes:
            if self.model.classes[where[0]].table[where[1]][0] in ("lazy", "given"):
                self.asked[where] = True
                return
        super().add(where)

    def read_object(self, name):
        """An object is named."""
        self.asked[("", name)] = True

    def read_given(self, name):
        """A given of the program is evidence."""
        if is_single(self.script.definition(name)):
            self.asked[("", name)] = True
        else:
            super().read_given(name)


def once_worked(script):
    """The wheres of all that is worked once, (name,) for objects and givens of the program."""
    found = [(one[1],) for one in script.model.definitions if is_single(one)]
    for name in script.model.classes:
        for member in script.model.classes[name].members:
            if member[0] in ("lazy", "given"):
                found.append((name, member[1]))
    return found


def all_rings(script):
    """The ascending rings; TooMany, if there are more than are told."""
    made = Reached(script).made
    asked = {}
    for where in once_worked(script):
        row = ("", where[0]) if len(where) == 1 else where
        asked[row] = Asking(script, made).asked_by(where)
    asking = {row: [] for row in asked}
    for row in asked:
        for other in asked[row]:
            asking[other].append(row)
    found = []
    for start in sorted(list(asked)):
        found.extend(rings_from(asked, asking, start, RINGS_MOST + 1 - len(found)))
        if len(found) > RINGS_MOST:
            raise TooMany("there are more rings than are told")
    return sorted(found)


def rings_from(asked, asking, start, most):
    """The rings of which a row is the least, as far as so many."""
    found = []
    ways = [(start,)]
    while ways and len(found) < most:
        way = ways.pop()
        # Only what still leads back is gone into: so each way comes to be a ring.
        back = leading_back(asking, way)
        for row in asked[way[-1]]:
            if row == start:
                found.append(way)
            elif row in back:
                ways.append(way + (row,))
    return found


def leading_back(asking, way):
    """The rows that lead to the start of a way, by rows that are greater and not on it."""
    start = way[0]
    on_way = {row: True for row in way}
    found = {}
    rest = [start]
    while rest:
        last = rest.pop()
        for row in asking[last]:
            if row > start and row not in on_way and row not in found:
                found[row] = True
                rest.append(row)
    return found
