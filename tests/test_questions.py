"""Questions that are answered without a run: points 37 to 39."""

import unittest

from linearmix.checks import check
from linearmix.errors import BadClass, BadForm, NoMember, NotLetBy, TooMany
from linearmix.questions import asks, hidden, never_reached, ready_order, reached, rounds, unready_reads, worked_by
from linearmix.runs import calls_of, run
from test_kinds import LOST
from test_orders import NO_NAMES, NO_PROGRAMS, program
from wilds import changed_programs, wild_programs
from worlds import (ALL_PROGRAMS, ANY, FISHES, FISHES_PROGRAM, INT, TEXT, THIS, UNIT, a_def, a_kind, a_val, above, call,
                    cls, extend, fun, given, lazy, let, name, new, num, obj, of, op, own_given, parent, text, then, trait,
                    val)

DOING = (hidden, unready_reads, reached, never_reached, rounds)


def world_of(*definitions, main=("unit",)):
    return (definitions, main)


class QuestionCase(unittest.TestCase):
    def told(self, work, rows, *definitions, main=("unit",)):
        whole = (definitions, main)
        self.assertIsNone(check(whole))
        self.assertEqual(work(whole), rows)


class WorkedByTest(QuestionCase):
    def test_through_mixins(self):
        whole = program(*FISHES, obj("eel", lazy("l", INT, num(1)), own_given("g", INT, num(2)), a_kind("K", ANY, INT),
                                     parents=(parent("Cod"), parent("Big"), parent("Loud"))))
        for class_name, x, told in (("Cod", "title", "Cod"), ("Pike", "title", "Big"), ("nemo", "title", "Loud"),
                                    ("eel", "title", "Loud"), ("nemo", "teeth", "Pike"), ("nemo", "age", "Pike"),
                                    ("eel", "l", "eel"), ("eel", "g", "eel")):
            self.assertEqual(worked_by(whole, class_name, x), told)
            if x == "title":
                self.assertEqual(calls_of((whole[0], call(name("nemo"), "title")), 5000)[0][1:], ("Pike", "teeth"))
        for class_name in ("Fish", "Loud", "Eel", "") + NO_NAMES:
            with self.assertRaises(BadClass):
                worked_by(whole, class_name, "title")
        for x in ("gone", "K", "teeth") + NO_NAMES:
            with self.assertRaises(NoMember):
                worked_by(whole, "eel", x)
        for x in NO_NAMES:
            with self.assertRaises(NoMember):
                worked_by(whole, "Eel", x)
            with self.assertRaises(BadClass):
                worked_by(whole, "9", x)
        self.assertEqual(worked_by(program=whole, name="Cod", member="title"), "Cod")


class HiddenTest(QuestionCase):
    def test_bodies_that_nothing_reaches(self):
        one = trait("One", a_def("f", INT, num(1)), a_def("g", INT, num(1)))
        two = trait("Two", a_def("f", INT, above("f")), a_def("g", INT, num(2)), parents=(parent("One"),))
        self.told(hidden, [], one, two)
        self.told(hidden, [("One", "g", "Two")], one, two, obj("o", parents=(parent("Two"),)))
        self.told(hidden, [("One", "g", "Two")], one, two, cls("C"), main=new("C", more=("Two",)))
        # In another order each reaches what is behind, by whatever name.
        three = trait("Three", a_def("f", INT, above("g")), a_def("g", INT, num(3)), parents=(parent("Two"),))
        self.told(hidden, [("One", "f", "Three"), ("One", "g", "Three"), ("Two", "f", "Three")],
                  one, two, three, obj("o", parents=(parent("Three"),)))
        four = trait("Four", a_def("g", INT, above("f")), parents=(parent("Three"),))
        self.told(hidden, [("One", "f", "Three"), ("One", "g", "Four"), ("Three", "g", "Four"), ("Two", "f", "Three")],
                  one, two, three, four, obj("o", parents=(parent("Four"),)))

    def test_chains_by_whatever_names(self):
        low = trait("Low", a_def("f", INT, num(1)), a_def("g", INT, num(1)))
        mid = trait("Mid", a_def("f", INT, above("g")), a_def("g", INT, num(2)), parents=(parent("Low"),))
        top = trait("Top", a_def("f", INT, num(3)), a_def("g", INT, above("f")), parents=(parent("Mid"),))
        self.told(hidden, [("Low", "f", "Top"), ("Mid", "g", "Top")], low, mid, top, obj("o", parents=(parent("Top"),)))

    def test_chains_that_begin_in_a_val(self):
        low = trait("Low", a_def("f", INT, num(1)))
        mid = trait("Mid", a_def("f", INT, num(2)), a_val("v", INT, above("f")), parents=(parent("Low"),))
        top = trait("Top", a_def("f", INT, num(3)), parents=(parent("Mid"),))
        self.told(hidden, [("Mid", "f", "Top")], low, mid, top, obj("o", parents=(parent("Top"),)))

    def test_kinds_and_vparams_are_none(self):
        self.told(hidden, [], trait("T", a_kind("K", ANY, INT), a_val("v", INT), own_given("g", INT, num(1))),
                  cls("C", a_kind("K", ANY, INT), vparams=(("v", INT),), parents=(parent("T"),)), main=new("C", num(1)))
        self.told(hidden, [("T", "g", "C")], trait("T", own_given("g", INT, num(1))),
                  cls("C", own_given("g", INT, num(1)), parents=(parent("T"),)), main=new("C"))

    def test_it_is_ascending_with_nothing_twice(self):
        one = trait("One", a_def("f", INT, num(1)))
        two = trait("Two", a_def("f", INT, num(2)), parents=(parent("One"),))
        self.told(hidden, [("One", "f", "Two"), ("One", "f", "o")] + [("Two", "f", "o")], one, two,
                  obj("o", a_def("f", INT, num(3)), parents=(parent("Two"),)), cls("C"),
                  main=then(new("C", more=("Two",)), new("C", more=("Two",))))


class AsksTest(QuestionCase):
    BODY = then(call(THIS, "b", val(THIS, "c")), ("apply", ("fun", (), above("a", call(THIS, "b", num(1)))), ()),
                val(call(THIS, "d"), "e"), let("x", THIS, call(name("x"), "y")), ("match", THIS, ((ANY, val(THIS, "c")),)),
                num(1))
    WORLD = program(
        trait("T", a_def("a", INT, num(1), params=(("n", INT),)), a_def("b", INT, num(1), params=(("n", INT),))),
        cls("C", a_def("a", INT, BODY, params=(("n", INT),)), a_def("d", of("D"), new("D")), a_def("y", INT, num(1)),
            a_def("gone", INT), a_val("v", INT, val(THIS, "c")), a_val("no1", INT), lazy("l", INT, call(THIS, "y")),
            own_given("g", INT, val(THIS, "l")), a_kind("K", ANY, INT), a_kind("L", ANY), a_def("m", INT, call(num(1), "ext")),
            a_def("n", INT, call(THIS, "on")), vparams=(("c", INT),), parents=(parent("T"),)),
        cls("D", a_val("e", INT, num(1))), extend("ex", ("x", ANY), a_def("ext", INT, num(1)), a_def("on", INT, num(1))))

    def test_names(self):
        self.assertIsNone(check(self.WORLD))
        for x, told in (("a", ["a", "b", "c", "d"]), ("d", []), ("v", ["c"]), ("l", ["y"]), ("g", ["l"]), ("c", []), ("K", []),
                        ("m", []), ("n", ["on"])):
            self.assertEqual(asks(self.WORLD, "C", x), told)
        self.assertEqual(asks(program=self.WORLD, name="T", member="b"), [])
        asks(self.WORLD, "C", "a").clear()
        self.assertEqual(len(asks(self.WORLD, "C", "a")), 4)

    def test_errors(self):
        for x in ("b", "gone", "no1", "L", "zz") + NO_NAMES:
            with self.assertRaises(NoMember):
                asks(self.WORLD, "C", x)
        for class_name in ("Eel", "ex") + NO_NAMES:
            with self.assertRaises(BadClass):
                asks(self.WORLD, class_name, "a")
        with self.assertRaises(NoMember):
            asks(self.WORLD, "Eel", "9")


class ReadyOrderTest(QuestionCase):
    def test_several_parents(self):
        world = (trait("T", a_val("t", INT, num(1)), a_val("abs1", INT)), trait("U", a_val("u", INT, num(2)), lazy("l", INT, num(1))),
                 cls("Top", a_val("p", INT, num(1)), a_val("p2", INT, num(1)), vparams=(("top", INT), ("top2", INT))),
                 cls("Mid", a_val("m", INT, num(1)), vparams=(("mid", INT),), parents=(parent("Top", num(1), num(2)), parent("T"))),
                 cls("Low", a_val("l2", INT, num(1)), vparams=(("low", INT), ("abs1", INT)),
                     parents=(parent("Mid", num(1)), parent("U"))), obj("o", a_val("x", INT, num(1)), parents=(parent("Low", num(1), num(2)),)))
        whole = program(*world)
        self.assertIsNone(check(whole))
        rows = [("Low", "low"), ("Low", "abs1"), ("Mid", "mid"), ("Top", "top"), ("Top", "top2"), ("Top", "p"), ("Top", "p2"),
                ("T", "t"), ("Mid", "m"), ("U", "u"), ("Low", "l2")]
        self.assertEqual(ready_order(whole, "Low"), rows)
        self.assertEqual(ready_order(program=whole, name="o"), rows + [("o", "x")])
        self.assertEqual([row[1:] for row in calls_of((world, then(name("o"), num(1))), 5000)], rows[5:] + [("o", "x")])
        for class_name in ("T", "Mid", "Eel") + NO_NAMES:
            with self.assertRaises(BadClass):
                ready_order(whole, class_name)


class UnreadyReadsTest(QuestionCase):
    def reads(self, rows, *members, more=(), main=None):
        self.told(unready_reads, rows, cls("C", *members), *more, main=new("C") if main is None else main)

    def test_through_bodies(self):
        w = a_val("w", INT, num(1))
        self.reads([], a_val("v", INT, num(1)), a_val("w", INT, val(THIS, "v")))
        self.reads([("C", "w")], a_val("v", INT, val(THIS, "w")), w)
        self.reads([("C", "v")], a_val("v", INT, val(THIS, "v")))
        self.reads([("C", "w")], a_val("v", INT, call(THIS, "f")), w, a_def("f", INT, call(THIS, "g")),
                   a_def("g", INT, val(THIS, "w")))
        self.reads([("C", "w")], a_val("v", INT, val(THIS, "l")), w, lazy("l", INT, val(THIS, "w")))
        self.reads([("C", "w")], a_val("v", INT, val(THIS, "g")), w, own_given("g", INT, val(THIS, "w")))
        self.reads([("C", "w")], a_val("v", INT, ("summon", INT)), w, own_given("g", INT, val(THIS, "w")))
        self.reads([("C", "w")], a_val("v", fun(INT), ("fun", (), val(THIS, "w"))), w)
        self.reads([("C", "w")], a_val("v", INT, ("lazy", "x", INT, val(THIS, "w"), num(1))), w)
        tool = obj("tool", a_def("f", INT, num(1), params=(("n", INT, True),)))
        self.reads([("C", "w")], a_val("v", INT, call(name("tool"), "f", val(THIS, "w"))), w, more=(tool,))
        # A body that is found for these parts; what nothing makes is not looked at.
        self.told(unready_reads, [], cls("C", a_val("v", INT, val(THIS, "w")), w))

    def test_by_the_parts(self):
        base = trait("Base", a_val("v", INT, call(THIS, "f")), a_def("f", INT, num(1)), a_val("w", INT, num(2)))
        mixed = trait("Mixed", a_def("f", INT, op("+", above("f"), val(THIS, "w"))), parents=(parent("Base"),))
        self.told(unready_reads, [], base, mixed, cls("C"), main=new("C", more=("Base",)))
        self.told(unready_reads, [("Base", "w")], base, mixed, cls("C"), main=new("C", more=("Mixed",)))
        above_w = trait("Deep", a_def("f", INT, above("f")), parents=(parent("Mixed"),))
        self.told(unready_reads, [("Base", "w")], base, mixed, above_w, obj("o", parents=(parent("Deep"),)))

    def test_this_that_stands_otherwise(self):
        w, every = a_val("w", INT, num(1)), [("C", "v"), ("C", "w")]
        tool = obj("tool", a_def("f", INT, num(1), params=(("c", ANY),)))
        ext = extend("ex", ("x", ANY), a_def("ext", INT, num(1)))
        for e in (call(name("tool"), "f", THIS), call(THIS, "ext"), then(("show", THIS), num(1)), ("match", THIS, ((ANY, num(1)),)),
                  let("x", THIS, num(1)), val(call(THIS, "me"), "w")):
            self.reads(every, a_val("v", INT, e), w, a_def("me", of("C"), THIS), more=(tool, ext))
        self.reads(every, a_val("u", INT, num(1)), a_val("v", ANY, THIS), w)
        self.reads([("C", "v")], a_val("u", INT, num(1)), a_val("v", of("C"), THIS))

    def test_an_objects_own_name(self):
        members = (a_val("u", INT, num(1)), a_val("v", INT, then(name("o"), num(1))), a_val("w", INT, num(2)))
        self.told(unready_reads, [("o", "v"), ("o", "w")], obj("o", *members))
        hides = (a_val("u", INT, num(1)), a_val("v", INT, let("o", num(3), name("o"))), a_val("w", INT, num(2)))
        self.told(unready_reads, [], obj("o", *hides))
        self.told(unready_reads, [], obj("o", a_val("v", INT, then(name("p"), num(1)))), obj("p"))

    def test_vparams_are_ready(self):
        self.told(unready_reads, [], cls("C", a_val("v", INT, val(THIS, "k")), vparams=(("k", INT),)), main=new("C", num(1)))


class ReachedTest(QuestionCase):
    WORLD = (trait("Fish", a_def("title", TEXT), a_def("f", INT, num(0))),
             cls("Cod", a_def("title", TEXT, text("cod")), a_val("v", INT, num(1)), lazy("l", INT, num(2)), parents=(parent("Fish"),)),
             cls("Eel", a_def("title", TEXT, text("eel")), a_val("v", INT, call(THIS, "f")), a_def("f", INT, above("f")),
                 parents=(parent("Fish"),)),
             trait("Loud", a_def("title", TEXT, above("title")), parents=(parent("Fish"),)),
             obj("nemo", a_val("n", INT, ("summon", INT)), own_given("own", UNIT, ("unit",)), a_def("g", UNIT, ("summon", UNIT))),
             given("gi", INT, num(1)), given("gt", TEXT, text(""), wants=(("w", INT),)), given("gu", ANY, num(1)),
             extend("ex", ("x", INT), a_def("up", INT, name("x")), a_def("down", INT, name("x"))),
             cls("Low", vparams=(("k", INT),), parents=(parent("High", call(name("k"), "up")),)), cls("High", vparams=(("h", INT),)))

    def reach(self, rows, main):
        self.told(reached, rows, *self.WORLD, main=main)
        whole = (self.WORLD, main)
        every = sorted(reached(whole) + never_reached(whole))
        self.assertEqual(every, [("", "gi"), ("", "gt"), ("", "gu"), ("Cod", "l"), ("Cod", "title"), ("Cod", "v"), ("Eel", "f"),
                                 ("Eel", "title"), ("Eel", "v"), ("Fish", "f"), ("Loud", "title"), ("ex", "down"), ("ex", "up"),
                                 ("nemo", "g"), ("nemo", "n"), ("nemo", "own")])

    def test_news_objects_vals_supers_and_evidence(self):
        self.reach([], ("unit",))
        self.reach([("Cod", "v")], new("Cod"))
        self.reach([("Eel", "f"), ("Eel", "v"), ("Fish", "f")], new("Eel"))
        # By the name alone, in all parts that are made.
        self.reach([("Cod", "title"), ("Cod", "v"), ("Eel", "f"), ("Eel", "title"), ("Eel", "v"), ("Fish", "f")],
                   then(call(new("Cod"), "title"), new("Eel")))
        self.reach([("Cod", "title"), ("Cod", "v"), ("Loud", "title")], call(new("Cod", more=("Loud",)), "title"))
        self.reach([("", "gi"), ("nemo", "n")], name("nemo"))
        self.reach([], let("nemo", num(1), name("nemo")))
        self.reach([("", "gi"), ("nemo", "g"), ("nemo", "n"), ("nemo", "own")], call(name("nemo"), "g"))
        self.reach([("", "gi"), ("", "gt")], ("summon", TEXT))
        self.reach([("ex", "up")], new("Low", num(1)))
        self.reach([("ex", "down")], call(num(1), "down"))
        self.reach([("Cod", "l"), ("Cod", "v")], val(new("Cod"), "l"))
        self.reach([], ("given", "gi", INT, num(1), ("summon", INT)))
        self.reach([], ("fun", (), num(1)))
        self.reach([("Cod", "v")], ("fun", (("n", ANY),), new("Cod")))


class RoundsTest(QuestionCase):
    def test_of_one(self):
        self.told(rounds, [(("C", "l"),)], cls("C", lazy("l", INT, val(THIS, "l"))), main=new("C"))
        self.told(rounds, [(("C", "l"),)], cls("C", lazy("l", INT, call(THIS, "f")), a_def("f", INT, val(THIS, "l"))), main=new("C"))
        self.told(rounds, [(("", "o"),)], obj("o", a_val("v", of("o"), name("o"))))
        self.told(rounds, [(("", "g"),)], given("g", INT, ("summon", INT)))
        self.told(rounds, [(("C", "g"),)], cls("C", own_given("g", INT, ("summon", INT))), main=new("C"))
        # What nothing makes is found by no name.
        self.told(rounds, [], cls("C", lazy("l", INT, val(THIS, "l"))))
        self.told(rounds, [], obj("o", a_val("v", INT, let("o", num(1), name("o")))))

    def test_of_more(self):
        two = (obj("p", a_val("v", INT, val(name("o"), "v"))), obj("o", a_val("v", INT, val(name("p"), "v"))))
        self.told(rounds, [(("", "o"), ("", "p"))], *two)
        lazies = obj("o", lazy("a", INT, val(THIS, "b")), lazy("b", INT, val(THIS, "c")),
                     lazy("c", INT, op("+", val(THIS, "a"), val(THIS, "b"))))
        self.told(rounds, [(("o", "a"), ("o", "b"), ("o", "c")), (("o", "b"), ("o", "c"))], lazies, main=name("o"))
        mixed = (given("g", INT, val(name("o"), "l")), obj("o", lazy("l", INT, ("summon", INT)), a_val("v", INT, num(1))))
        self.told(rounds, [(("", "g"), ("o", "l"))], *mixed, main=name("o"))
        # A way goes through no other one of these: what that one asks is asked by it.
        self.told(rounds, [(("o", "b"),)], obj("o", lazy("a", INT, val(THIS, "b")), lazy("b", INT, val(THIS, "b"))), main=name("o"))
        wants = (given("g", INT, num(1), wants=(("w", TEXT),)), given("h", TEXT, then(("summon", UNIT), text(""))),
                 given("i", UNIT, then(("summon", INT), ("unit",))))
        self.told(rounds, [(("", "h"), ("", "i"))], *wants)

    def test_more_than_two_hundred(self):
        def ring(many):
            asked = num(0)
            for at in range(many):
                asked = op("+", asked, val(THIS, "l" + str(at)))
            return obj("o", *[lazy("l" + str(at), INT, asked) for at in range(many)])
        # Of n that all ask all: the rings of four are 24, of five 89, of six 415.
        self.assertEqual(len(rounds(((ring(4),), name("o")))), 24)
        self.assertEqual(len(rounds(((ring(5),), name("o")))), 89)
        for many in (6, 12):
            with self.assertRaises(TooMany):
                rounds(((ring(many),), name("o")))

    def test_ways_that_lead_nowhere(self):
        # Many ways through, and no ring.
        members = [lazy("z" + str(at), INT, num(1)) for at in range(2)]
        for at in range(8):
            ahead = ["z0", "z1"] if at == 0 else ["a" + str(at - 1), "b" + str(at - 1)]
            for letter in "ab":
                members.append(lazy(letter + str(at), INT, op("+", val(THIS, ahead[0]), val(THIS, ahead[1]))))
        world = (obj("o", *members[:12]), )
        self.assertEqual(rounds((world, name("o"))), [])


class NeverToldTest(unittest.TestCase):
    def test_a_run_never_tells_what_these_say_it_can_not(self):
        changed = [whole for seed in range(100, 112) for whole in changed_programs(seed, 12)]
        for whole in ALL_PROGRAMS + tuple(wild_programs(500, 40)) + tuple(changed):
            word, told, _ = run(whole, 5000)
            unready = unready_reads(whole)
            if word == "unready":
                self.assertIn(tuple(told.split()), unready)
            try:
                rings = rounds(whole)
            except TooMany:
                rings = None
            if word == "round" and rings is not None and (" " in told or told in [one[1] for one in whole[0]]):
                row = tuple(told.split()) if " " in told else ("", told)
                self.assertTrue([ring for ring in rings if row in ring], (whole, told))
            extensions = [one[1] for one in whole[0] if one[0] == "extend"]
            rows = reached(whole)
            for _, owner, x in calls_of(whole, 5000):
                self.assertTrue((owner, x) in rows or not owner and [one for one in extensions if (one, x) in rows], (owner, x))
            self.assertFalse(set(rows) & set(never_reached(whole)))
            gone = {row[:2] for row in hidden(whole)}
            self.assertEqual(len(hidden(whole)), len(set(hidden(whole))))
            self.assertTrue(all(isinstance(row, tuple) for row in gone))


class ErrorsTest(unittest.TestCase):
    def test_programs_first(self):
        works = DOING + (lambda whole: worked_by(whole, 5, 5), lambda whole: asks(whole, 5, 5), lambda whole: ready_order(whole, 5))
        for work in works:
            for thing in NO_PROGRAMS:
                with self.assertRaises(BadForm):
                    work(thing)
            with self.assertRaises(NotLetBy) as caught:
                work(LOST)
            self.assertEqual(caught.exception.what, ("name", ()))
        for work in DOING:
            first = work(program=FISHES_PROGRAM)
            kept = list(first)
            first.append("spoilt")
            self.assertEqual(work(FISHES_PROGRAM), kept)


if __name__ == "__main__":
    unittest.main()
