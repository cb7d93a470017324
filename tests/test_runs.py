"""Runs by the plain rules: points 25 to 29."""

import unittest

from linearmix.checks import check
from linearmix.errors import BadCount, BadForm, NotLetBy
from linearmix.forms import moved, renamed
from linearmix.found import found
from linearmix.runs import calls_of, first_unlike, reads, run, steps_of, things_made
from test_kinds import LOST
from test_orders import NO_PROGRAMS
from wilds import wild_programs
from worlds import (A, ALL_PROGRAMS, ANY, FISHES, FISHES_PROGRAM, INT, LISTS, PARAM_A, SHOWS_PROGRAM, TEXT, THIS,
                    UNIT, a_def, a_val, above, call, cls, extend, fun, given, let, lazy, name, new, num, obj, of, op,
                    own_given, parent, text, then, trait, val)

NO_COUNTS = (None, -1, 5001, True, False, "5", (), [5], 5.0.__class__, {})
WORKS = (run, steps_of, calls_of, things_made, reads)
SHOW_1 = ("show", num(1))


def show(e):
    return ("show", e)


def program(*definitions, main=("unit",)):
    return (definitions, main)


class RunCase(unittest.TestCase):
    def ends(self, word, told, main, *definitions, shown=()):
        whole = (definitions, main)
        self.assertIsNone(check(whole))
        self.assertEqual(run(whole, 5000), (word, told, list(shown)))

    def value(self, told, main, *definitions, shown=()):
        self.ends("value", told, main, *definitions, shown=shown)


class DocumentTest(RunCase):
    def test_the_documents_example(self):
        fish = trait("Fish", a_def("title", TEXT))
        cod = cls("Cod", a_def("title", TEXT, text("cod")), parents=(parent("Fish"),))
        main = let("f", new("Cod"), op("join", text("a"), call(name("f"), "title")))
        self.value('"acod"', main, fish, cod)


class ToldTest(RunCase):
    def test_each_sort(self):
        for told, e in (("-7", num(-7)), ("yes", ("truth", True)), ("no", ("truth", False)), ('"a b"', text("a b")),
                        ("()", ("unit",)), ("fun", ("fun", (), num(1)))):
            self.value(told, e)
            self.value("()", show(e), shown=[told])

    def test_objects_and_further_parts(self):
        world = (trait("Loud"), trait("Big"), cls("C", vparams=(("n", INT), ("t", TEXT))), cls("Fish"),
                 cls("Low", a_val("w", INT, num(5)), vparams=(("m", INT),), parents=(parent("C", num(1), text("a")),)),
                 obj("nemo", parents=(parent("Fish"), parent("Loud"))))
        self.value("Fish()", new("Fish"), *world)
        self.value('C(7 "a")+Loud+Big', new("C", num(7), text("a"), more=("Loud", "Big")), *world)
        self.value("Low(3)", new("Low", num(3)), *world)
        self.value("nemo", name("nemo"), *world)

    def test_within_five_others(self):
        world = (cls("B", vparams=(("v", ANY),)), obj("o"))
        e = name("o")
        for _ in range(5):
            e = new("B", e)
        self.value("B(B(B(B(B(..)))))", e, *world)
        self.value("B(B(B(B(B(..)))))", new("B", e), *world)
        self.value("B(B(B(B(o))))", e[1][0][2][0], *world)
        seven = num(7)
        for _ in range(5):
            seven = new("B", seven)
        self.value("B(B(B(B(B(7)))))", seven, *world)

    def test_two_hundred_characters_alone(self):
        long = op("join", text("a" * 40), op("join", text("b" * 40), op("join", text("c" * 40), text("d" * 40))))
        told = '"' + "a" * 40 + "b" * 40 + "c" * 40 + "d" * 40
        self.value("()", show(op("join", long, text("e" * 40))), shown=[told + "e" * 39])
        self.value("P(" + told + '" ' + told[:200 - len(told) - 4], new("P", long, long),
                   cls("P", vparams=(("a", TEXT), ("b", TEXT))))
        # Six of six within one another, each told once.
        e = num(1)
        for _ in range(5):
            e = let("s", e, new("S", *[name("s")] * 6))
        one = "1"
        for _ in range(5):
            one = "S(" + " ".join([one] * 6) + ")"
        self.assertEqual(run(((cls("S", vparams=tuple(("f" + str(at), ANY) for at in range(6))),), e), 5000)[1], one[:200])

    def test_size(self):
        big = num(10 ** 59)
        self.value(str(10 ** 60 - 10), op("*", num((10 ** 59) - 1), num(10)))
        self.ends("stop", "size", op("*", big, num(10)))
        self.ends("stop", "size", op("-", num(-(10 ** 60) + 1), num(1)))
        self.value(str(-(10 ** 60) + 1), op("-", num(-(10 ** 60) + 2), num(1)))
        self.ends("stop", "size", op("+", num(10 ** 60 - 1), num(1)))
        forty = text("a" * 40)
        long = op("join", op("join", forty, forty), op("join", forty, op("join", forty, forty)))
        self.value("()", then(long, ("unit",)))
        self.ends("stop", "size", then(SHOW_1, op("join", long, text("b"))), shown=["1"])


class WorkTest(RunCase):
    def test_ops(self):
        for told, word, one, other in (
                ("5", "+", 2, 3), ("-1", "-", 2, 3), ("6", "*", 2, 3), ("yes", "<", 2, 3), ("no", "<", 3, 3),
                ("yes", "=", 3, 3), ("no", "=", 2, 3)):
            self.value(told, op(word, num(one), num(other)))
        same = let("f", ("fun", (), num(1)), op("=", name("f"), name("f")))
        self.value("yes", same)
        self.value("no", op("=", ("fun", (), num(1)), ("fun", (), num(1))))
        self.value("no", op("=", new("C"), new("C")), cls("C"))
        self.value("yes", op("=", name("o"), name("o")), obj("o"))
        for one, other in ((num(1), ("truth", True)), (num(0), ("truth", False)), (text("1"), num(1)),
                           (("unit",), ("truth", False)), (text(""), ("unit",)), (new("C"), num(1))):
            self.value("no", op("=", one, other), cls("C"))
        self.value("yes", op("=", ("unit",), ("unit",)))
        self.value("no", op("and", ("truth", False), then(SHOW_1, ("truth", True))))
        self.value("no", op("and", then(SHOW_1, ("truth", True)), ("truth", False)), shown=["1"])
        self.value("yes", op("or", ("truth", True), then(SHOW_1, ("truth", True))))
        self.value("yes", op("or", ("truth", False), then(SHOW_1, ("truth", True))), shown=["1"])

    def test_from_the_left(self):
        tool = obj("tool", a_def("f", INT, num(0), params=(("a", INT), ("b", INT))))
        def told(n):
            return then(show(num(n)), num(n))
        self.value("0", call(then(show(text("on")), name("tool")), "f", told(1), told(2)), tool, shown=['"on"', "1", "2"])
        asks = obj("asks", a_def("f", INT, name("w"), params=(("a", INT),), wants=(("w", INT),)))
        self.value("9", call(name("asks"), "f", told(1), givens=(then(show(num(2)), num(9)),)), asks, shown=["1", "2"])
        self.value("9", call(name("asks"), "f", told(1)), asks, given("g", INT, then(show(text("g")), num(9))),
                   shown=["1", '"g"'])
        self.value("3", ("apply", then(show(text("f")), ("fun", (("x", INT),), name("x"))), (told(3),)),
                   shown=['"f"', "3"])

    def test_by_name(self):
        world = (obj("tool", a_def("two", INT, op("+", name("n"), name("n")), params=(("n", INT, True),)),
                     a_def("none1", INT, num(0), params=(("n", INT, True),)),
                     a_def("on", INT, call(THIS, "two", name("n")), params=(("n", INT, True),))),
                 cls("C", a_def("go", INT, call(name("tool"), "two", then(show(val(THIS, "v")), val(THIS, "v")))),
                     vparams=(("v", INT),)))
        self.value("2", call(name("tool"), "two", then(SHOW_1, num(1))), *world, shown=["1", "1"])
        self.value("0", call(name("tool"), "none1", then(SHOW_1, num(1))), *world)
        self.value("2", call(name("tool"), "on", then(SHOW_1, num(1))), *world, shown=["1", "1"])
        self.value("8", call(new("C", num(4)), "go"), *world, shown=["4", "4"])

    def test_funs_where_they_stand(self):
        add = let("n", num(5), ("fun", (("x", INT),), op("+", name("x"), name("n"))))
        self.value("8", let("f", add, let("n", num(100), ("apply", name("f"), (num(3),)))))
        world = cls("C", a_def("f", fun(INT), ("fun", (), val(THIS, "v"))), vparams=(("v", INT),))
        self.value("4", ("apply", call(new("C", num(4)), "f"), ()), world)
        twice = let("f", ("fun", (), then(SHOW_1, num(1))), op("+", ("apply", name("f"), ()), ("apply", name("f"), ())))
        self.value("2", twice, shown=["1", "1"])

    def test_lets_and_lazies(self):
        self.value("2", ("let", "x", None, then(SHOW_1, num(1)), op("+", name("x"), name("x"))), shown=["1"])
        self.value("2", ("lazy", "x", INT, then(SHOW_1, num(1)), then(show(num(0)), op("+", name("x"), name("x")))),
                   shown=["0", "1"])
        self.value("0", ("lazy", "x", INT, then(SHOW_1, num(1)), num(0)))
        self.value("3", ("given", "x", INT, then(SHOW_1, num(3)), ("summon", INT)), shown=["1"])
        # The first is not in reach of itself; what is further out is.
        self.value("2", ("let", "x", None, num(1), ("lazy", "x", INT, op("+", name("x"), num(1)), name("x"))))

    def test_this_and_super_through_mixins(self):
        self.ends(*run(FISHES_PROGRAM, 5000)[:2], FISHES_PROGRAM[1], *FISHES, shown=['"big cod!"'])
        both = new("Cod", more=("Big", "Loud"))
        self.value('"big cod!"', call(both, "title"), *FISHES)
        self.value('"cod!"', call(name("nemo"), "title"), *FISHES[:3], obj("nemo", parents=(parent("Cod"), parent("Loud"))))
        late = trait("Late", a_def("title", TEXT, ("apply", ("fun", (), above("title")), ())), parents=(parent("Fish"),))
        self.value('"cod"', call(new("Cod", more=("Late",)), "title"), *FISHES, late)

    def test_extensions(self):
        told = extend("told", ("x", INT), a_def("more", INT, op("+", name("x"), op("*", name("w"), name("n"))),
                                               params=(("n", INT, True),)), wants=(("w", INT),))
        self.value("12", call(num(2), "more", then(SHOW_1, num(5))), told, given("g", INT, num(2)), shown=["1"])
        self.value("32", call(num(2), "more", num(5), givens=(num(6),)), told)

    def test_matches(self):
        tests = ((text("a"), "0"), (num(1), "1"), (("truth", True), "2"), (num(2), "3"))
        for e, told in tests:
            self.value(told, let("m", e, ("match", name("m"), (
                (("lit", text("a")), num(0)), (("lit", num(1)), num(1)), (("lit", ("truth", True)), num(2)),
                (ANY, num(3)))), kind=ANY))
        bound = ("match", num(4), ((("bind", "b"), op("+", name("b"), num(1))),))
        self.value("5", bound)
        cons = new("Cons", num(1), new("Cons", num(2), name("nil"), kinds=(INT,)), kinds=(INT,))
        cases = ((("of", "Cons", (("bind", "h"), ("of", "Cons", (("lit", num(2)), ("is", "n", "nil"))))), name("h")),)
        self.value("1", ("match", cons, cases), *LISTS)
        self.ends("unmatched", "Cons(2 nil)", ("match", cons[1][0][2][1], cases), *LISTS)
        self.ends("unmatched", "nil", ("match", let("l", name("nil"), name("l"), kind=of("List", INT)), cases), *LISTS)
        # A trait that a new mixes in.
        self.value("1", ("match", new("Cod", more=("Loud",)), ((("is", "l", "Loud"), num(1)), (ANY, num(2)))), *FISHES)
        self.value("2", ("match", new("Cod"), ((("is", "l", "Loud"), num(1)), (ANY, num(2)))), *FISHES,
                   given("g", UNIT, then(new("Cod", more=("Loud",)), ("unit",))))

    def test_evidence_each_time_or_once(self):
        world = (cls("S", vparams=(("v", ANY),)),
                 given("once", of("S"), then(show(text("once")), new("S", num(0)))),
                 given("each", fun(A), then(show(text("each")), ("fun", (), ("stop", ""))), kparams=PARAM_A),
                 given("deep", UNIT, then(show(text("deep")), ("unit",)), wants=(("w", of("S")),)))
        twice = then(("summon", of("S")), ("summon", of("S")))
        self.value("S(0)", twice, *world, shown=['"once"'])
        self.value("fun", then(("summon", fun(INT)), ("summon", fun(INT))), *world, shown=['"each"', '"each"'])
        self.value("()", then(("summon", UNIT), ("summon", UNIT)), *world, shown=['"once"', '"deep"', '"deep"'])
        asks = obj("asks", a_def("f", INT, num(1), wants=(("w", UNIT),)), a_def("g", UNIT, ("summon", UNIT),
                                                                              wants=(("w", UNIT),)))
        self.value("1", call(name("asks"), "f"), asks, *world, shown=['"once"', '"deep"'])
        self.value("()", call(name("asks"), "g", givens=(("unit",),)), asks, *world)
        # A want is found, though a let hides its name.
        hides = obj("hides", a_def("f", UNIT, let("w", num(3), then(show(name("w")), ("summon", UNIT))),
                                   wants=(("w", UNIT),)))
        self.value("()", call(name("hides"), "f", givens=(("unit",),)), hides, *world, shown=["3"])

    def test_wants_evidence_ahead_of_the_body(self):
        world = (cls("S"), given("a", of("S"), then(show(text("a")), new("S"))),
                 given("b", INT, num(1), wants=(("w", of("S")),)))
        whole = (world, then(("summon", INT), ("unit",)))
        self.assertEqual(calls_of(whole, 5000), [(1, "", "a"), (1, "", "b")])


class ReadyTest(RunCase):
    def test_args_then_those_of_parents_then_vals_from_the_far_end(self):
        def told(t, e):
            return then(show(text(t)), e)
        world = (trait("T", a_val("t", INT, told("t", num(1)))), trait("U", a_val("u", INT, told("u", num(2)))),
                 cls("Top", a_val("p", INT, told("p", val(THIS, "top"))), vparams=(("top", INT),)),
                 cls("Mid", a_val("m", INT, told("m", val(THIS, "p"))), vparams=(("mid", INT),),
                     parents=(parent("Top", told("args of mid", name("mid"))), parent("T"))),
                 cls("Low", a_val("l", INT, told("l", val(THIS, "m"))), vparams=(("low", INT),),
                     parents=(parent("Mid", told("args of low", op("+", name("low"), num(1)))),)))
        whole = (world, new("Low", told("arg", num(5)), more=("U",)))
        self.assertIsNone(check(whole))
        self.assertEqual(run(whole, 5000), ("value", "Low(5)+U", [
            '"arg"', '"args of low"', '"args of mid"', '"p"', '"t"', '"m"', '"l"', '"u"']))
        self.assertEqual(reads(whole, 5000), [("Top", "top", True), ("Top", "p", True), ("Mid", "m", True)])
        self.assertEqual(things_made(whole, 5000), ["Low"])
        self.assertEqual([row[1:] for row in calls_of(whole, 5000)], [
            ("Top", "p"), ("T", "t"), ("Mid", "m"), ("Low", "l"), ("U", "u")])

    def test_unready(self):
        early = trait("Early", a_val("e", INT, val(THIS, "late")), a_val("late", INT))
        c = cls("C", a_val("late", INT, num(1)), parents=(parent("Early"),))
        whole = ((early, c), new("C"))
        self.assertIsNone(check(whole))
        self.assertEqual(run(whole, 5000), ("unready", "C late", []))
        self.assertEqual(reads(whole, 5000), [("C", "late", False)])
        self.ends("unready", "C v", new("C"), cls("C", a_val("v", INT, call(THIS, "f")), a_def("f", INT, val(THIS, "v"))))
        self.ends("unready", "C v", new("C"), cls("C", a_val("v", INT, val(THIS, "l")), lazy("l", INT, val(THIS, "v"))))
        self.ends("unready", "C v", new("C"), cls("C", a_val("v", INT, call(name("tool"), "f", THIS))),
                  obj("tool", a_def("f", INT, val(name("c"), "v"), params=(("c", of("C")),))))
        # vparams are ready, also where a val without a body stands nearer.
        self.value("C(4)", new("C", num(4)), cls("C", a_val("w", INT, val(THIS, "v")), vparams=(("v", INT),),
                                                 parents=(parent("T"),)), trait("T", a_val("v", INT)))

    def test_lazies_are_worked_once(self):
        c = cls("C", lazy("l", INT, then(SHOW_1, num(7))), own_given("g", INT, then(show(num(2)), num(8))),
                a_def("both", INT, op("+", val(THIS, "l"), ("summon", INT))))
        self.value("23", let("c", new("C"), op("+", call(name("c"), "both"), op("+", val(name("c"), "g"), num(0)))), c,
                   shown=["1", "2"])
        self.value("14", op("+", val(new("C"), "l"), val(new("C"), "l")), c, shown=["1", "1"])

    def test_rounds(self):
        self.ends("round", "C l", val(new("C"), "l"), cls("C", lazy("l", INT, call(THIS, "f")),
                                                          a_def("f", INT, val(THIS, "l"))))
        loop = ("lazy", "x", INT, call(name("tool"), "f", num(1)), name("x"))
        self.value("1", loop, obj("tool", a_def("f", INT, name("n"), params=(("n", INT),))))
        self.ends("round", "o", name("o"), obj("o", a_val("v", of("o"), name("o"))))
        self.ends("round", "g", ("summon", INT), given("g", INT, call(name("tool"), "f")),
                  obj("tool", a_def("f", INT, ("summon", INT))))
        self.ends("round", "C g", val(new("C"), "g"), cls("C", own_given("g", INT, ("summon", INT))))

    def test_rounds_of_two_objects(self):
        world = (obj("p", a_val("v", INT, val(name("o"), "v"))), obj("o", a_val("v", INT, val(name("p"), "v"))))
        self.ends("round", "o", val(name("o"), "v"), *world)
        self.ends("round", "p", val(name("p"), "v"), *world)

    def test_a_given_member_further_on(self):
        world = (trait("T", own_given("g", INT, num(1))),
                 cls("C", own_given("g", INT, num(2)), a_def("f", INT, ("summon", INT)), parents=(parent("T"),)))
        self.value("2", call(new("C"), "f"), *world)
        whole = (world, new("C"))
        self.assertEqual(steps_of(whole, 5000), 2)


class BoundTest(RunCase):
    def test_steps_one_by_one(self):
        whole = ((), op("+", num(1), num(2)))
        self.assertEqual(run(whole, 3), ("value", "3", []))
        for bound in range(3):
            self.assertEqual(run(whole, bound), ("steps", "", []))
            self.assertEqual(steps_of(whole, bound), bound)
        self.assertEqual(steps_of(whole, 5000), 3)
        self.assertEqual(run(((), then(SHOW_1, num(2))), 3), ("steps", "", ["1"]))
        # Patterns count, their literals do not; lazies and givens of what is made.
        self.assertEqual(steps_of(((), ("match", num(1), ((("lit", num(2)), num(3)), (ANY, num(4))))), 5000), 5)
        made = (cls("C", lazy("l", INT, num(1)), own_given("g", INT, num(2)), a_val("v", INT, num(3))),)
        self.assertEqual(steps_of((made, new("C")), 5000), 4)
        self.assertEqual(calls_of((made, new("C")), 2), [])
        self.assertEqual(calls_of((made, new("C")), 3), [(1, "C", "v")])
        self.assertEqual(steps_of(((given("g", INT, num(1)),), ("summon", INT)), 5000), 2)

    def test_every_bound_of_whole_runs(self):
        for whole in ALL_PROGRAMS[:3] + tuple(wild_programs(0, 4)):
            steps = min(steps_of(whole, 5000), 25)
            last, begun, made, read = [], [], [], []
            for bound in range(steps + 2):
                word, _, shown = run(whole, bound)
                self.assertEqual(shown[:len(last)], last)
                self.assertEqual(calls_of(whole, bound)[:len(begun)], begun)
                self.assertEqual(things_made(whole, bound)[:len(made)], made)
                self.assertEqual(reads(whole, bound)[:len(read)], read)
                self.assertEqual(steps_of(whole, bound), min(bound, steps_of(whole, 5000)))
                if bound < steps_of(whole, 5000):
                    self.assertEqual(word, "steps")
                else:
                    self.assertEqual(run(whole, bound), run(whole, 5000))
                last, begun = shown, calls_of(whole, bound)
                made, read = things_made(whole, bound), reads(whole, bound)

    def test_a_hundred_bodies_and_one_more(self):
        tool = obj("tool", a_def("down", INT, ("if", op("=", name("n"), num(0)), num(7),
                                               call(THIS, "down", op("-", name("n"), num(1)))), params=(("n", INT),)))
        self.value("7", call(name("tool"), "down", num(99)), tool)
        self.ends("deep", "", call(name("tool"), "down", num(100)), tool)
        whole = ((tool,), call(name("tool"), "down", num(99)))
        self.assertEqual(max(calls_of(whole, 5000))[0], 100)
        whole = ((tool,), call(name("tool"), "down", num(100)))
        self.assertEqual(len(calls_of(whole, 5000)), 100)
        # Deep goes ahead of steps.
        steps = steps_of(whole, 5000)
        self.assertEqual(run(whole, steps)[0], "deep")
        self.assertEqual(run(whole, steps - 1)[0], "steps")

    def test_funs_and_makings_are_no_bodies(self):
        loop = cls("Loop", vparams=(("f", fun(of("Loop"), INT, INT)),))
        body = ("fun", (("l", of("Loop")), ("n", INT)), (
            "if", op("=", name("n"), num(0)), num(7),
            ("apply", val(name("l"), "f"), (name("l"), op("-", name("n"), num(1))))))
        whole = ((loop,), let("l", new("Loop", body), ("apply", val(name("l"), "f"), (name("l"), num(400)))))
        self.assertEqual(run(whole, 5000), ("value", "7", []))
        self.assertEqual(calls_of(whole, 5000), [])
        endless = (loop, cls("Nest", vparams=(("n", INT),), parents=(
            parent("Base", new("Nest", op("+", name("n"), num(1)))),)), cls("Base", vparams=(("b", ANY),)))
        self.assertEqual(run((endless, new("Nest", num(0))), 5000)[0], "steps")

    def test_names_of_bodies(self):
        ext = extend("more", ("x", INT), a_def("up", INT, op("+", name("x"), num(1))))
        whole = ((ext, given("g", INT, num(3))), call(("summon", INT), "up"))
        self.assertEqual(calls_of(whole, 5000), [(1, "", "g"), (1, "", "up")])
        # Its body is begun at the summon, though its first step is one too many.
        self.assertEqual(calls_of(whole, 2), [(1, "", "g")])
        self.assertEqual(calls_of(whole, 1), [])
        # A super is told with the class that has the body.
        rows = calls_of((FISHES, call(new("Cod", more=("Loud",)), "title")), 5000)
        self.assertEqual(rows, [(1, "Loud", "title"), (2, "Cod", "title")])


class ListsAreNewTest(unittest.TestCase):
    def test_asked_twice(self):
        for whole in (FISHES_PROGRAM, SHOWS_PROGRAM):
            for work in (calls_of, things_made, reads):
                first = work(whole, 5000)
                kept = list(first)
                first.append("spoilt")
                self.assertEqual(work(whole, 5000), kept)
            outcome = run(whole, 5000)
            outcome[2].clear()
            self.assertNotEqual(run(whole, 5000)[2], [])


class FirstUnlikeTest(unittest.TestCase):
    def test_the_least_bound(self):
        one = ((), then(SHOW_1, num(2)))
        self.assertIsNone(first_unlike(one, one, 5000))
        self.assertIsNone(first_unlike(one, one, 0))
        self.assertEqual(first_unlike(one, ((), then(SHOW_1, num(3))), 5000), 4)
        self.assertIsNone(first_unlike(one, ((), then(SHOW_1, num(3))), 3))
        self.assertEqual(first_unlike(one, ((), then(("show", num(2)), num(2))), 5000), 3)
        # One has shown it earlier; at the bound given they are alike, so nothing is looked for.
        later = ((), then(("show", op("+", num(0), num(1))), num(2)))
        self.assertIsNone(first_unlike(one, later, 5000))
        self.assertEqual(first_unlike(one, later, 4), 3)
        self.assertEqual(first_unlike(one, later, 3), 3)
        self.assertEqual(first_unlike(((), num(1)), ((), op("+", num(0), num(2))), 5000), 1)
        self.assertEqual(first_unlike(((), ("stop", "a")), ((), ("stop", "b")), 1), 1)

    def test_by_every_lesser_bound(self):
        programs = wild_programs(40, 5)
        for one, other in zip(programs, programs[1:]):
            for bound in (0, 3, 15):
                told = first_unlike(one, other, bound)
                if run(one, bound) == run(other, bound):
                    self.assertIsNone(told)
                else:
                    self.assertEqual(told, [at for at in range(bound + 1) if run(one, at) != run(other, at)][0])

    def test_moved_renamed_and_with_what_is_found(self):
        for whole in ALL_PROGRAMS + tuple(wild_programs(80, 8)):
            many = len(whole[0])
            back = moved(whole, tuple(reversed(range(many))))
            self.assertIsNone(first_unlike(whole, back, 5000))
        whole = renamed(FISHES_PROGRAM, "Pike", "Trout")
        self.assertIsNone(first_unlike(FISHES_PROGRAM, whole, 5000))
        tree = dict(found(SHOWS_PROGRAM))[()]
        self.assertEqual(tree[0], SHOWS_PROGRAM[1])


class ErrorsTest(unittest.TestCase):
    def test_errors_and_their_sequence(self):
        for work in WORKS:
            for thing in NO_COUNTS:
                with self.assertRaises(BadCount):
                    work(FISHES_PROGRAM, thing)
                with self.assertRaises(NotLetBy) as caught:
                    work(LOST, thing)
                self.assertEqual(caught.exception.what, ("name", ()))
            for thing in NO_PROGRAMS:
                with self.assertRaises(BadForm):
                    work(thing, -1)
            self.assertEqual(work(program=FISHES_PROGRAM, steps=5000), work(FISHES_PROGRAM, 5000))

    def test_of_first_unlike(self):
        for thing in NO_COUNTS:
            with self.assertRaises(BadCount):
                first_unlike(FISHES_PROGRAM, SHOWS_PROGRAM, thing)
            with self.assertRaises(NotLetBy):
                first_unlike(FISHES_PROGRAM, LOST, thing)
            with self.assertRaises(NotLetBy):
                first_unlike(LOST, 5, thing)
            with self.assertRaises(BadForm):
                first_unlike(FISHES_PROGRAM, 5, thing)
        with self.assertRaises(BadForm):
            first_unlike(5, LOST, 5)
        self.assertIsNone(first_unlike(program=FISHES_PROGRAM, other=FISHES_PROGRAM, steps=7))


if __name__ == "__main__":
    unittest.main()
