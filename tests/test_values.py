"""Values of kinds that are not sealed, told one by one, and what takes some of a sealed kind: points 19 and 24."""

import itertools
import random
import unittest

from linearmix.checks import check
from linearmix.errors import BadPatterns
from linearmix.orders import mixed, order_of
from linearmix.shapes import missing, needless, tree_holds, tree_of
from test_shapes import NO, SOME, YES, is_a, lit, pat, shape, size
from worlds import ANY, INT, PARAM_A, A, TRUTH, cls, mix, new, num, obj, of, parent, then, trait

LOUD, WET = trait("Loud"), trait("Wet")
COD = cls("Cod", parents=(parent("Wet"), parent("Loud")))
BY_CLASS = ((LOUD, WET, COD), ("unit",))
BY_NEW = ((LOUD, WET, cls("Cod", parents=(parent("Wet"),))), then(new("Cod", more=("Loud",)), ("unit",)))


class FurtherTest(unittest.TestCase):
    """There is a further value right below each class and trait that some object may be of, as by 19."""

    def both(self, told, kind, *patterns, worlds=(BY_CLASS, BY_NEW)):
        for world in worlds:
            self.assertEqual(needless(world, kind, patterns), told)

    def holds(self, told, thing, kind, *patterns, worlds=(BY_CLASS, BY_NEW)):
        for world in worlds:
            self.assertIs(tree_holds(world, kind, patterns, thing), told)

    def test_of_a_trait_that_is_not_below_the_kind(self):
        cod, loud, wet = is_a("Cod"), is_a("Loud"), is_a("Wet")
        self.both([], of("Wet"), cod, loud)
        self.both([], of("Wet"), cod, pat("Loud"))
        self.both([], of("Wet"), cod, loud, wet)
        self.both([2], of("Wet"), cod, wet, loud)
        self.both([1], of("Wet"), loud, cod, worlds=(BY_CLASS,))
        self.both([], of("Wet"), loud, cod, worlds=(BY_NEW,))
        self.both([2, 3], of("Wet"), cod, ANY, loud, wet)
        self.both([1], mix(of("Wet"), of("Loud")), loud, wet, worlds=(BY_CLASS,))

    def test_trees(self):
        rows = (is_a("Cod"), is_a("Loud"))
        cod, loud = ("Cod", ("leaf", 0)), ("Loud", ("leaf", 1))
        self.holds(False, ("class", (), (cod,), ("none",)), of("Wet"), *rows)
        self.holds(True, ("class", (), (cod, loud), ("none",)), of("Wet"), *rows)
        self.holds(False, ("class", (), (cod, loud), None), of("Wet"), *rows)
        self.holds(False, ("class", (), (loud, cod), ("none",)), of("Wet"), *rows)
        # It is of the kind, too; and there is one of just the kind.
        self.holds(True, ("class", (), (cod, loud, ("Wet", ("none",))), None), of("Wet"), *rows)
        self.holds(False, ("class", (), (cod, ("Wet", ("none",)), loud), ("none",)), of("Wet"), *rows)
        for world in (BY_CLASS, BY_NEW):
            tree = tree_of(world, of("Wet"), rows)
            self.assertIs(tree_holds(world, of("Wet"), rows, tree), True)

    def test_where_no_object_is_of_both(self):
        for world in ((BY_CLASS[0][:2], ("unit",)), (BY_NEW[0], ("unit",))):
            with self.assertRaises(BadPatterns):
                needless(world, of("Wet"), (is_a("Loud"),))
            # No value is of Loud: what is asked of it leads nowhere.
            self.assertIs(tree_holds(world, of("Wet"), (ANY,), ("class", (), (("Loud", ("none",)),), ("leaf", 0))), True)
        # A trait below both of which nothing can be made is none of them, either.
        bare = ((LOUD, WET, trait("Both", parents=(parent("Wet"), parent("Loud")))), ("unit",))
        self.holds(True, ("class", (), (("Both", ("none",)),), ("leaf", 0)), of("Wet"), ANY, worlds=(bare,))

    def test_of_a_class_that_is_not_below_the_kind(self):
        tin = cls("Tin", vparams=(("t", TRUTH),))
        can = obj("can", parents=(parent("Tin", ("truth", True)), parent("Loud")))
        world = ((LOUD, tin, can), ("unit",))
        yes, no = pat("Tin", YES), pat("Tin", NO)
        self.both([], of("Loud"), is_a("can"), yes, no, worlds=(world,))
        self.both([3], of("Loud"), is_a("can"), yes, no, is_a("Tin"), worlds=(world,))
        self.both([], of("Tin"), yes, is_a("Loud"), no, worlds=(world,))
        self.both([2], of("Tin"), yes, no, is_a("Loud"), worlds=(world,))
        inner = ("lit", (0,), (((YES[1]), ("leaf", 1)), (NO[1], ("leaf", 2))), None)
        rows = (is_a("can"), yes, no)
        self.holds(True, ("class", (), (("can", ("leaf", 0)), ("Tin", inner)), ("none",)), of("Loud"), *rows, worlds=(world,))
        self.holds(False, ("class", (), (("can", ("leaf", 0)), ("Tin", ("leaf", 1))), ("none",)), of("Loud"), *rows,
                   worlds=(world,))

    def test_kinds_of_its_vparams(self):
        # Box is told of Loud by its upper; of what is a Box of a truth, and Loud, the vparam is a truth.
        box = cls("Box", kparams=(("A", "+", ANY),), vparams=(("v", A),))
        can = obj("can", parents=(parent("Box", ("truth", True), kinds=(TRUTH,)), parent("Loud")))
        world = ((LOUD, box, can), ("unit",))
        yes, no = pat("Box", YES), pat("Box", NO)
        self.both([], of("Loud"), yes, no, is_a("Box"), worlds=(world,))
        self.both([2], of("Loud"), yes, no, is_a("can"), worlds=(world,))
        self.both([2], of("Box", TRUTH), yes, no, is_a("Loud"), worlds=(world,))
        self.both([], of("Box", ANY), yes, no, is_a("Loud"), worlds=(world,))

    def test_sealed_ones_have_no_further_ones(self):
        world = ((LOUD, trait("S", sealed=True), trait("R", parents=(parent("S"),)),
                  cls("C", parents=(parent("R"), parent("Loud")))), ("unit",))
        self.both([1, 2], of("Loud"), is_a("C"), is_a("S"), is_a("R"), worlds=(world,))
        self.both([1], of("S"), is_a("C"), is_a("Loud"), worlds=(world,))
        self.both([], of("Loud"), is_a("C"), ANY, worlds=(world,))


class OpenBrute:
    """Values of a small world of traits, classes and news, most of them not sealed, told one by one."""

    def __init__(self, seed):
        self.r = random.Random(seed)
        field = self.r.choice([ANY, of("T1"), of("T2"), INT, of("S"), of("P")])
        first = trait("T1"), trait("T2", parents=self.some("T1")), trait("T3", parents=self.some("T1", "T2"))
        self.args = {"P": (("truth", True), ("stop", "")), "C": (), "D": (("truth", True),), "Low": (num(1),)}
        rows = first + (
            trait("S", sealed=True), obj("d", parents=(parent("S"),)), obj("c", parents=self.some("T1", "T2", "T3")),
            cls("P", vparams=(("p", TRUTH), ("q", field)), parents=self.some("T1", "T2", "T3")),
            cls("C", parents=self.some("T1", "T2", "T3")),
            cls("Low", vparams=(("n", INT),), parents=(parent("P", *self.args["P"]),) + self.some("T1", "T2", "T3")),
            cls("D", vparams=(("t", TRUTH),), parents=(parent("S"),) + self.some("T1", "T2", "T3")))
        self.fields = {"P": [TRUTH, field], "Low": [INT], "D": [TRUTH]}
        news = [(one,) + tuple(self.r.sample(["T1", "T2", "T3"], self.r.randint(1, 2)))
                for one in self.r.sample(sorted(self.args), self.r.randint(0, 2))]
        self.world = (rows, then(*[new(one[0], *self.args[one[0]], more=one[1:]) for one in news] + [("unit",)]))
        self.is_let_by = check(self.world) is None
        if self.is_let_by:
            self.orders = {one[1]: order_of(self.world, one[1]) for one in rows}
            self.made = [order_of(self.world, one[1]) for one in rows if one[0] != "trait"]
            self.mixes = [mixed(self.world, tuple((one, (), ()) for one in names)) for names in news]

    def some(self, *names):
        return tuple(parent(one) for one in self.r.sample(names, self.r.randint(0, min(2, len(names)))))

    def above(self, kind):
        if kind[0] == "with":
            return {one for inner in kind[1] for one in self.above(inner)}
        return set(self.orders[kind[1]]) if kind[0] == "of" else set()

    def is_of(self, order, kind):
        if kind[0] == "with":
            return all(self.is_of(order, inner) for inner in kind[1])
        return kind == ANY or kind[0] == "of" and kind[1] in order

    def is_sealed(self, kind):
        return "S" in self.above(kind)

    def heads(self, kind):
        """The sets of the classes of all objects of a kind."""
        orders = [order for order in self.made + self.mixes if self.is_of(order, kind)]
        found = [set(order) for order in orders]
        if not self.is_sealed(kind):
            found.append(self.above(kind))
            found.extend(set(self.orders[one]) | self.above(kind) for one in self.orders
                         if one[0].isupper() and "S" not in self.orders[one] and any(one in order for order in orders))
        return [one for at, one in enumerate(found) if one not in found[:at]]

    def values(self, kind, deep, literals, stars):
        if kind == TRUTH:
            return [NO, YES]
        if kind == INT:
            return [one for one in literals if one[1][0] == "int"] + ["further"]
        found = list(literals) if kind == ANY else []
        if stars and not self.is_sealed(kind):
            found.append(("star", kind))
        for head in self.heads(kind):
            spots = [(one, at) for one in sorted(head) for at in range(len(self.fields.get(one, [])))] if deep else []
            inner = [self.values(self.fields[one][at], deep - 1, literals, stars) for one, at in spots]
            found.extend(("thing", head, dict(zip(spots, row))) for row in itertools.product(*inner))
        return found

    def takes_all(self, pattern, kind):
        """Whether missing says that a pattern takes all of a kind that is not sealed."""
        asked = pattern[1] if pattern[0] == "of" else pattern[-1]
        if pattern[0] in ("any", "bind") or pattern[0] == "lit" or asked not in self.above(kind):
            return pattern[0] in ("any", "bind")
        return pattern[0] == "is" or all(self.takes_all(*pair) for pair in zip(pattern[2], self.fields.get(asked, [])))

    def takes(self, pattern, value):
        if pattern[0] in ("any", "bind") or pattern == value:
            return True
        if value[0] == "star":
            return self.takes_all(pattern, value[1])
        asked = pattern[1] if pattern[0] == "of" else pattern[-1]
        if pattern[0] == "lit" or value[0] != "thing" or asked not in value[1]:
            return False
        return pattern[0] == "is" or all(self.takes(one, value[2][(asked, at)]) for at, one in enumerate(pattern[2]))

    def pattern(self, kind, deep):
        if self.r.random() < .2 or not deep:
            return ANY
        if kind == TRUTH:
            return self.r.choice([NO, YES])
        if kind == INT or kind == ANY and self.r.random() < .2:
            return lit(self.r.randint(0, 1))
        one = self.r.choice([one for one in self.orders if any(one in head for head in self.heads(kind))] or ["S"])
        if self.r.random() < .5:
            return is_a(one, "x" + str(self.r.randint(0, 10 ** 9)))
        return ("of", one, tuple(self.pattern(field, deep - 1) for field in self.fields.get(one, [])))

    def kind(self):
        names = [self.r.choice(["T1", "T2", "T3", "P", "C", "Low"]) for _ in range(2)]
        kind = self.r.choice([ANY, of("S"), of(names[0]), of(names[1]), mix(*[of(one) for one in names])])
        # Nothing is promised of several parts of which something is through a new alone.
        is_mixed = kind[0] == "with" and any(self.is_of(order, kind) for order in self.mixes)
        return of(names[0]) if is_mixed else kind

    def led(self, tree, value):
        """The leaf to which a tree leads a value, in a list; [] for none."""
        asked = {}
        while tree[0] not in ("leaf", "none"):
            at, path = value, ()
            for number in tree[1]:
                at = at[2][(asked[path], number)]
                path += (number,)
            hits = [(worth, inner) for worth, inner in tree[2]
                    if (at == ("lit", worth) if tree[0] == "lit" else at[0] == "thing" and worth in at[1])]
            if hits and tree[0] == "class":
                asked[path] = hits[0][0]
            tree = hits[0][1] if hits else tree[3]
        return list(tree[1:])


def with_other_leaves(tree, many):
    """Trees that are one with another leaf in it."""
    if tree is None or tree[0] in ("leaf", "none"):
        leaves = [("none",)] + [("leaf", at) for at in range(many)]
        return [one for one in leaves if tree is not None and one != tree]
    word, path, pairs, rest = tree
    found = [(word, path, pairs, inner) for inner in with_other_leaves(rest, many)]
    for at, (worth, inner) in enumerate(pairs):
        found.extend((word, path, pairs[:at] + ((worth, one),) + pairs[at + 1:], rest)
                     for one in with_other_leaves(inner, many))
    return found


def literals_in(thing):
    """The patterns of the literals that stand in patterns."""
    if thing[:1] == ("lit",):
        return [thing]
    return [one for inner in thing if isinstance(inner, tuple) for one in literals_in(inner)]


class OpenBruteTest(unittest.TestCase):
    def test_all_values_one_by_one(self):
        looked = 0
        for seed in range(300):
            brute = OpenBrute(seed)
            if not brute.is_let_by:
                continue
            kind = brute.kind()
            patterns = tuple(brute.pattern(kind, 2) for _ in range(brute.r.randint(0, 5)))
            literals = sorted(set(literals_in(patterns)))
            values = brute.values(kind, 2, literals, True)
            firsts = [[at for at, one in enumerate(patterns) if brute.takes(one, value)][:1] for value in values]
            try:
                told = needless(brute.world, kind, patterns)
            except BadPatterns:
                continue
            looked += 1
            self.assertEqual(told, [at for at in range(len(patterns)) if [at] not in firsts], seed)
            self.trees(brute, kind, patterns, brute.values(kind, 2, literals, False))
        self.assertGreater(looked, 150)

    def trees(self, brute, kind, patterns, values):
        firsts = [[at for at, one in enumerate(patterns) if brute.takes(one, value)][:1] for value in values]
        tree = tree_of(brute.world, kind, patterns)
        self.assertIs(tree_holds(brute.world, kind, patterns, tree), True)
        self.assertEqual([brute.led(tree, value) for value in values], firsts)
        others = with_other_leaves(tree, len(patterns))
        for other in brute.r.sample(others, min(len(others), 5)):
            told = tree_holds(brute.world, kind, patterns, other)
            self.assertIs(told, [brute.led(other, value) for value in values] == firsts, (kind, patterns, other))


# The world: what is optional, of any, and pairs of such a one and a truth.
OPTS = ((trait("Opt", sealed=True), cls("Some", vparams=(("v", ANY),), parents=(parent("Opt"),)), trait("Wrap", sealed=True),
         cls("Pair", vparams=(("x", of("Opt")), ("y", TRUTH)), parents=(parent("Wrap"),)), LOUD),
        then(new("Some", ("truth", True), more=("Loud",)), ("unit",)))


class SomeTest(unittest.TestCase):
    """Some of a sealed kind stands for all its values, some of another one for the further ones."""

    def misses(self, told, *patterns, kind=of("Wrap"), world=OPTS):
        self.assertEqual(missing(world, kind, patterns), told)

    def test_what_takes_some_value_further_in(self):
        due = shape("Pair", shape("Some", SOME), NO)
        for inner in (YES, lit(1), is_a("Opt"), is_a("Some"), is_a("Loud"), pat("Some", YES), pat("Pair", ANY, YES)):
            self.misses(due, pat("Pair", pat("Some", inner), ANY))
            self.misses(shape("Some", SOME), pat("Some", inner), kind=of("Opt"))
        self.misses(shape("Pair", SOME, NO), pat("Pair", pat("Some", YES), YES))
        self.misses(shape("Pair", shape("Some", SOME), YES), pat("Pair", pat("Some", YES), ANY), pat("Pair", ANY, NO))

    def test_what_takes_none_further_in(self):
        # What news mix in is not looked at: no value that missing knows is of Loud.
        self.misses(shape("Pair", SOME, NO), pat("Pair", is_a("Loud"), ANY))
        self.misses(shape("Pair", SOME, NO), pat("Pair", is_a("Loud"), ANY), pat("Pair", pat("Some", ANY), YES))
        self.misses(None, pat("Pair", pat("Some", ANY), ANY))

    def test_the_further_ones_at_some_itself(self):
        ints = ((trait("S", sealed=True), cls("C", vparams=(("n", INT), ("t", TRUTH)), parents=(parent("S"),)), LOUD,
                 cls("Tin", parents=(parent("Loud"),)), cls("D", vparams=(("l", of("Loud")),), parents=(parent("S"),))), ("unit",))
        self.misses(shape("C", SOME, NO), pat("C", lit(1), ANY), kind=of("C"), world=ints)
        self.misses(shape("D", SOME), pat("C", ANY, ANY), pat("D", is_a("Tin")), kind=of("S"), world=ints)
        self.misses(None, pat("C", ANY, ANY), pat("D", is_a("Loud")), kind=of("S"), world=ints)

    def test_deeper(self):
        world = (OPTS[0] + (trait("Big", sealed=True), cls("Box", vparams=(("w", of("Wrap")), ("z", TRUTH)), parents=(parent("Big"),))),
                 ("unit",))
        box = pat("Box", pat("Pair", pat("Some", lit(1)), YES), ANY)
        self.misses(shape("Box", shape("Pair", SOME, NO), NO), box, kind=of("Big"), world=world)
        self.misses(shape("Box", shape("Pair", shape("Some", SOME), YES), NO), box, pat("Box", pat("Pair", ANY, NO), ANY),
                    kind=of("Big"), world=world)
        self.misses(shape("Box", SOME, NO), pat("Box", ANY, YES), kind=of("Big"), world=world)


class DeepBrute:
    """Values and shapes of sealed classes with what is not sealed further in."""

    def __init__(self, seed):
        self.r = random.Random(seed)
        field = self.r.choice([ANY, INT, of("Loud")])
        rows = [trait("S", sealed=True), LOUD, trait("W", sealed=True),
                cls("Some", vparams=(("v", field),), parents=(parent("S"),) + (parent("Loud"),) * self.r.randint(0, 1)),
                cls("Pair", vparams=(("x", of("S")), ("y", self.r.choice([TRUTH, of("S")]))), parents=(parent("W"),))]
        more = [obj("c", parents=(parent("S"),)), obj("e", parents=(parent("Loud"),)),
                cls("Box", vparams=(("p", of("S")),), parents=(parent("W"),))]
        rows.extend(one for one in more if self.r.random() < .5)
        self.world = (tuple(rows), ("unit",))
        self.orders = {one[1]: order_of(self.world, one[1]) for one in rows}
        self.fields = {one[1]: [kind for _, kind in one[3]] for one in rows if one[0] == "class"}
        self.made = sorted(one[1] for one in rows if one[0] != "trait")

    def made_of(self, kind):
        """The classes that can be made and are of a kind."""
        return [one for one in self.made if kind == ANY or kind[0] == "of" and kind[1] in self.orders[one]]

    def is_closed(self, kind):
        return kind not in (ANY, INT, of("Loud"))

    def values(self, kind, deep):
        if kind == TRUTH:
            return [NO, YES]
        found = [] if self.is_closed(kind) else ["further"]
        if kind in (ANY, INT):
            found.extend([lit(0), lit(1)])
        for one in self.made_of(kind):
            if deep or one not in self.fields:
                inner = [self.values(field, deep - 1) for field in self.fields.get(one, [])]
                found.extend(("of", one, row) for row in itertools.product(*inner))
        return found

    def shapes(self, kind, deep, is_top):
        found = [] if is_top and self.is_closed(kind) else [SOME]
        if kind == TRUTH:
            return found + [NO, YES]
        for one in self.made_of(kind) if self.is_closed(kind) and deep else []:
            inner = [self.shapes(field, deep - 1, False) for field in self.fields.get(one, [])]
            found.extend(("of", one, row) for row in itertools.product(*inner))
        return found

    def has(self, told, value, kind):
        if told == SOME:
            return self.is_closed(kind) or value == "further"
        if told[0] == "lit" or value[0] != "of":
            return told == value
        return told[1] == value[1] and all(self.has(*row) for row in zip(told[2], value[2], self.fields.get(told[1], [])))

    def takes(self, pattern, value, kind):
        asked = pattern[1] if pattern[0] == "of" else pattern[-1]
        if pattern == ANY or value == "further":
            return pattern == ANY or kind == of("Loud") and asked == "Loud"
        if pattern[0] == "lit" or value[0] != "of":
            return pattern == value
        if pattern[0] == "is" or asked != value[1]:
            return asked in self.orders[value[1]]
        return all(self.takes(*row) for row in zip(pattern[2], value[2], self.fields.get(value[1], [])))

    def pattern(self, kind, deep):
        if self.r.random() < .2 or not deep:
            return ANY
        if kind == TRUTH:
            return self.r.choice([NO, YES])
        if kind == INT or kind == ANY and self.r.random() < .5:
            return lit(self.r.randint(0, 1))
        one = self.r.choice(self.made_of(kind) * 3 + ["S", "Loud"])
        # What is further in of any is not opened, as its values do not go so deep.
        if self.r.random() < .25 or kind == ANY:
            return is_a(one, "x" + str(self.r.randint(0, 10 ** 9)))
        return ("of", one, tuple(self.pattern(field, deep - 1) for field in self.fields.get(one, [])))


class DeepBruteTest(unittest.TestCase):
    def test_all_shapes_one_by_one(self):
        looked = 0
        for seed in range(600):
            brute = DeepBrute(seed)
            kind = brute.r.choice([of("S"), of("W"), of("Pair")])
            patterns = tuple(brute.pattern(kind, 3) for _ in range(brute.r.randint(1, 5)))
            try:
                told = missing(brute.world, kind, patterns)
            except BadPatterns:
                continue
            looked += 1
            values = brute.values(kind, 3)
            untaken = [not any(brute.takes(one, value, kind) for one in patterns) for value in values]
            shapes = [one for one in brute.shapes(kind, 3, True)
                      if all(told for value, told in zip(values, untaken) if brute.has(one, value, kind))]
            self.assertEqual(told, min([(size(one), one) for one in shapes])[1] if shapes else None, (seed, patterns))
        self.assertGreater(looked, 300)


if __name__ == "__main__":
    unittest.main()
