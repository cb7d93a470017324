"""Cores that are made by chance from a seed, always the same ones."""

import random

SELECTORS = ("a", "b", "c")


class WildCore:
    """Makes a core: how many of everything first, then the c's of its bodies."""

    def __init__(self, seed):
        self.r = random.Random(seed)
        self.params = [0] + [self.r.choice([0, 0, 1, 1, 2]) for _ in range(self.r.randint(0, 5))]
        self.with_this = [at for at, many in enumerate(self.params) if many]
        self.without = [at for at, many in enumerate(self.params) if not many]
        self.tables = [self.table(at) for at in range(self.r.randint(0, 3) if self.with_this else 0)]
        self.singles = tuple((self.r.choice(self.without), "o" + str(at)) for at in range(self.r.randint(0, 2)))
        self.total = 0
        self.own = 0

    def table(self, at):
        slots = tuple("P" + str(at) + " s" + str(k) for k in range(self.r.randint(0, 2)))
        told = tuple(self.r.randrange(len(slots)) for _ in range(self.r.randint(0, 2))) if slots else ()
        rows = tuple((one, self.r.choice(self.with_this)) for one in SELECTORS if self.r.random() < .6)
        return ("P" + str(at), self.r.choice([None, told]), ("L",)[:self.r.randint(0, 1)], slots, rows,
                self.r.choice(self.with_this))

    def core(self):
        bodies = []
        for many in self.params:
            self.own = self.total = many
            c = self.c(self.r.randint(1, 5), list(range(many)), False)
            bodies.append((many, self.total - many, c))
        return (tuple(self.tables), tuple(bodies), self.singles, 0)

    def local(self):
        self.total += 1
        return self.total - 1

    def cs(self, many, deep, reach, closed):
        return tuple(self.c(deep - 1, reach, closed) for _ in range(many))

    def c(self, deep, reach, closed):
        if not deep or self.r.random() < .15:
            return self.leaf(reach)
        return self.r.choice([self.plain, self.plain, self.called, self.called, self.bound, self.later])(deep, reach, closed)

    def leaf(self, reach):
        leaves = [("int", self.r.randint(-1, 3)), ("truth", True), ("truth", False), ("text", "a"), ("unit",)]
        return ("local", self.r.choice(reach)) if reach and self.r.random() < .6 else self.r.choice(leaves)

    def plain(self, deep, reach, closed):
        word = self.r.choice(["if", "if", "then", "op", "op", "show", "slot", "among", "fill", "stop"])
        if word == "fill" and (closed or not self.own) or word == "stop" and self.r.random() < .8:
            word = "then"
        if word == "if":
            first = ("truth", self.r.random() < .5) if self.r.random() < .5 else self.c(deep - 1, reach, closed)
            return (word, first) + self.cs(2, deep, reach, closed)
        if word == "then":
            return (word,) + self.cs(2, deep, reach, closed)
        if word in ("op", "stop", "fill"):
            sign = {"op": self.r.choice("+-*<="), "stop": self.r.choice(["stop", "unmatched"]), "fill": self.r.randint(0, 1)}
            return (word, sign[word]) + self.cs(1 if word == "stop" else 2, deep, reach, closed)
        if word == "show":
            return (word,) + self.cs(1, deep, reach, closed)
        numbers = tuple(at for at in range(len(self.tables)) if self.r.random() < .5)
        return (word,) + self.cs(1, deep, reach, closed) + ((numbers,) if word == "among" else (self.r.randint(0, 2),))

    def called(self, deep, reach, closed):
        way = self.r.randint(0, 3)
        if way == 0 and self.tables:
            at = self.r.randrange(len(self.tables))
            return ("make", at, self.cs(self.params[self.tables[at][5]] - 1, deep, reach, closed))
        if way == 1 and self.singles:
            return ("single", self.r.randrange(len(self.singles)))
        if way == 2:
            inner = self.cs(1, deep, reach, closed)
            return ("send",) + inner + (self.r.choice(SELECTORS), self.cs(self.r.randint(0, 1), deep, reach, closed))
        at = self.r.randrange(len(self.params))
        return ("direct", at, self.cs(self.params[at], deep, reach, closed))

    def bound(self, deep, reach, closed):
        if self.r.random() < .6:
            first, number = self.c(deep - 1, reach, closed), self.local()
            return ("let", number, first, self.c(deep - 1, reach + [number], closed))
        numbers = [self.local() for _ in range(self.r.randint(0, 2))]
        fun = ("fun", tuple(numbers), self.c(deep - 1, reach + numbers, True))
        return fun if self.r.random() < .3 else ("apply", fun, self.cs(len(numbers), deep, reach, closed))

    def later(self, deep, reach, closed):
        inner = self.c(deep - 1, reach, True)
        late = self.r.choice([("late", inner), ("once", "q", inner)])
        if self.r.random() < .2:
            return late
        return (("now" if late[0] == "late" else "first"), late)


def wild_cores(many):
    """So many cores."""
    return [WildCore(seed).core() for seed in range(many)]
