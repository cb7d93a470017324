"""What of a core can be reached by the c's that stand in it (point 34)."""

from linearmix.corewalk import all_cs


class Reach:
    """The bodies and tables of a core that are reached."""

    def __init__(self, core):
        self.tables, self.all_bodies, self.singles, main = core
        self.bodies = {main: True}
        self.made = {}
        self.selectors = {}
        self.rest = [main]
        while self.rest:
            number = self.rest.pop()
            for c in all_cs(self.all_bodies[number][2]):
                self.reach_c(c)

    def reach_body(self, number):
        """Reaches a body."""
        if number not in self.bodies:
            self.bodies[number] = True
            self.rest.append(number)

    def reach_row(self, table, selector):
        """Reaches the body that a table has for a selector."""
        for one, number in self.tables[table][4]:
            if one == selector:
                self.reach_body(number)

    def reach_c(self, c):
        """Reaches what a c needs."""
        if c[0] == "direct":
            self.reach_body(c[1])
        elif c[0] == "single":
            self.reach_body(self.singles[c[1]][0])
        elif c[0] == "make" and c[1] not in self.made:
            self.made[c[1]] = True
            self.reach_body(self.tables[c[1]][5])
            for selector in self.selectors:
                self.reach_row(c[1], selector)
        elif c[0] == "send" and c[2] not in self.selectors:
            self.selectors[c[2]] = True
            for table in self.made:
                self.reach_row(table, c[2])

    def told(self):
        """The ascending numbers of the bodies, and of the tables."""
        return (tuple(sorted(list(self.bodies))), tuple(sorted(list(self.made))))

    def cs(self):
        """All c's of the bodies that are reached."""
        return [c for number in self.bodies for c in all_cs(self.all_bodies[number][2])]
