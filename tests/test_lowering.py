"""Programs lowered to cores: point 33, and the main property."""

import unittest

from linearmix.better import better
from linearmix.checks import check
from linearmix.cores import is_core, run_core
from linearmix.errors import BadForm, NotLetBy, TooMany
from linearmix.lowering import lowered
from linearmix.runs import run, steps_of
from test_kinds import LOST
from test_orders import NO_PROGRAMS
from wilds import changed_programs, wild_programs
from worlds import (A, ALL_PROGRAMS, ANY, B, FISHES, INT, LISTS, PARAM_A, TEXT, THIS, UNIT, a_def, a_kind, a_val, above,
                    call, cls, extend, fun, given, kparam, lazy, let, name, new, num, obj, of, op, own_given, parent, text,
                    then, trait, val)


def names_that_are_no_selectors(program):
    """The names of givens, kind members, traits and kind parameters."""
    found = []
    for definition in program[0]:
        if definition[0] in ("given", "trait"):
            found.append(definition[1])
        if definition[0] in ("trait", "class", "given", "extend"):
            found.extend(one[0] for one in definition[2])
        members = definition[-1] if definition[0] in ("object", "extend") else definition[-2]
        if definition[0] != "given":
            found.extend(one[1] for one in members if one[0] in ("given", "kind"))
            found.extend(kparam[0] for one in members if one[0] == "def" for kparam in one[2])
    return found


class LoweredCase(unittest.TestCase):
    def same(self, program):
        core = lowered(program)
        self.assertIs(is_core(core), True)
        outcome = run(program, 5000)
        if outcome[0] not in ("steps", "deep"):
            self.assertEqual(run_core(core, 100000), outcome)
        for bound in (0, 1, 2, 3, 5, 8, 13, 21, 34, 55, 100, 1000):
            self.assertNotEqual(run_core(core, bound)[0], "stuck")
        selectors = [row[0] for table in core[0] for row in table[4]]
        self.assertFalse(set(selectors) & set(names_that_are_no_selectors(program)))
        return core


class LoweredTest(LoweredCase):
    def test_programs_of_every_sort(self):
        for program in ALL_PROGRAMS:
            self.same(program)

    def test_wild_programs(self):
        for program in wild_programs(200, 60):
            self.same(program)

    def test_changed_programs(self):
        for seed in range(24):
            for program in changed_programs(seed, 14):
                core = lowered(program)
                outcome = run(program, 5000)
                if outcome[0] not in ("steps", "deep"):
                    self.assertEqual(run_core(core, 100000), outcome)
                    self.assertEqual(run_core(better(core), 100000), outcome)

    def test_names_that_are_both_val_and_lazy(self):
        world = (cls("C", a_val("v", INT, num(1))), cls("D", lazy("v", INT, num(2))), cls("E", own_given("v", INT, num(3))))
        self.same((world, op("+", val(new("C"), "v"), op("+", val(new("D"), "v"), val(new("E"), "v")))))

    def test_names_that_are_words_and_the_like(self):
        world = (trait("Title"), given("title", INT, num(7)),
                 cls("C", a_def("title", INT, ("summon", INT)), a_kind("Title1", ANY, INT)),
                 extend("title2", ("x", A), a_def("title3", A, name("x")), kparams=PARAM_A))
        self.same((world, call(call(new("C"), "title"), "title3")))

    def test_by_name_within_by_name_and_funs(self):
        tool = obj("tool", a_def("f", INT, call(THIS, "g", op("+", name("n"), num(1))), params=(("n", INT, True),)),
                   a_def("g", INT, ("apply", ("fun", (("k", INT),), op("*", name("k"), name("n"))), (name("n"),)),
                         params=(("n", INT, True),)))
        self.same(((tool,), call(name("tool"), "f", then(("show", num(1)), num(2)))))

    def test_evidence_of_every_sort(self):
        world = (cls("S", kparams=(kparam("A"),), vparams=(("v", TEXT),)),
                 given("si", of("S", INT), then(("show", text("si")), new("S", text("i"), kinds=(INT,)))),
                 given("sf", of("S", fun(A, B)), then(("show", text("sf")), new(
                     "S", op("join", val(name("a"), "v"), val(name("b"), "v")), kinds=(fun(A, B),))),
                     kparams=(kparam("A"), kparam("B")), wants=(("a", of("S", A)), ("b", of("S", B)))),
                 cls("C", own_given("st", of("S", TEXT), then(("show", text("st")), new("S", text("t"), kinds=(TEXT,)))),
                     a_def("f", of("S", fun(TEXT, INT)), ("summon", of("S", fun(TEXT, INT)))),
                     a_def("g", of("S", fun(UNIT, INT)), ("summon", of("S", fun(UNIT, INT))), wants=(("w", of("S", UNIT)),)),
                     a_def("h", of("S", fun(UNIT, TEXT)), call(THIS, "k")),
                     a_def("k", of("S", fun(UNIT, TEXT)), ("given", "u", of("S", UNIT), new("S", text("u"), kinds=(UNIT,)),
                                                          ("apply", ("fun", (), ("summon", of("S", fun(UNIT, TEXT)))), ())))))
        unit = new("S", text("w"), kinds=(UNIT,))
        self.same((world, let("c", new("C"), then(
            ("show", call(name("c"), "f")), ("show", call(name("c"), "f")), ("show", call(name("c"), "g", givens=(unit,))),
            call(name("c"), "h")))))

    def test_unready_rounds_and_unmatched(self):
        for program in (
                ((cls("C", a_val("v", INT, val(THIS, "w")), a_val("w", INT, num(1))), ), new("C")),
                ((obj("o", a_val("v", ANY, name("o"))), ), name("o")),
                ((cls("C", lazy("l", INT, val(THIS, "l"))),), val(new("C"), "l")),
                ((given("g", INT, ("summon", INT)),), ("summon", INT)),
                ((cls("C", own_given("g", INT, ("summon", INT))),), val(new("C"), "g")),
                ((), ("match", num(3), ((("lit", num(2)), num(1)),))),
                ((), then(("show", num(1)), ("stop", "end"))),
                ((), op("*", num(10 ** 59), num(10)))):
            self.assertIsNone(check(program))
            self.same(program)
            self.assertNotEqual(run(program, 5000)[0], "value")

    def test_deep_patterns_and_nested_matches(self):
        pattern = ("is", "n", "nil")
        for at in range(9):
            pattern = ("of", "Cons", (("lit", num(at)) if at % 2 else ("bind", "h" + str(at)), pattern))
        def chain(last):
            e = last
            for at in range(9):
                e = new("Cons", num(at), e, kinds=(INT,))
            return e
        for last in (name("nil"), new("Cons", num(1), name("nil"), kinds=(INT,))):
            self.same((LISTS, ("match", chain(last), ((pattern, op("+", name("h0"), name("h8"))), (ANY, num(99))))))
        e = num(0)
        for at in range(7):
            e = ("match", num(at), ((("lit", num(at + 1)), num(5)), (("bind", "b"), op("+", name("b"), e))))
        self.same(((), e))

    def test_deep_expressions(self):
        tool = obj("tool", a_def("f", INT, name("n"), params=(("n", INT, True),)))
        e = num(1)
        for _ in range(18):
            e = call(name("tool"), "f", e)
        self.same(((tool,), e))

    def test_super_of_many_parts(self):
        order = [trait("T" + str(at), a_def("title", TEXT, op("join", text(str(at)), above("title"))),
                       parents=(parent("Fish"),)) for at in range(5)]
        world = FISHES[:2] + tuple(order)
        for more in (("T0", "T1", "T2"), ("T2", "T1"), ("T4", "T3", "T0", "T1", "T2")):
            self.same((world, call(new("Cod", more=more), "title")))

    def test_wide_classes(self):
        traits = []
        for at in range(12):
            members = [a_val("v" + str(at) + "x" + str(k), INT, num(k)) for k in range(6)]
            members += [lazy("l" + str(at) + "x" + str(k), INT, num(k)) for k in range(6)]
            traits.append(trait("T" + str(at), *members))
        chain = [cls("C0", vparams=tuple(("a0x" + str(k), INT) for k in range(6)))]
        for at in range(1, 7):
            args = [name("a" + str(at) + "x" + str(k)) for k in range(6)]
            chain.append(cls("C" + str(at), vparams=tuple(("a" + str(at) + "x" + str(k), INT) for k in range(6)),
                             parents=(parent("C" + str(at - 1), *args),)))
        main = let("c", new("C6", *[num(k) for k in range(6)], more=["T" + str(at) for at in range(5)]),
                   op("+", val(name("c"), "a0x5"), op("+", val(name("c"), "v4x5"), val(name("c"), "l4x5"))))
        self.same((tuple(traits + chain), main))
        self.assertEqual(run((tuple(traits + chain), main), 5000)[1], "15")

    def test_many_locals(self):
        def funs(many, last):
            e = last
            for _ in range(many):
                e = ("fun", tuple(("p" + str(k), INT) for k in range(6)), e)
            return e
        self.same(((), then(funs(18, num(1)), funs(17, num(1)), funs(17, num(1)))))

    def test_as_many_steps_as_may_be(self):
        # Much that is no step by the plain rules: twelve wants, each of six givens of this.
        wants = tuple(("w" + str(at), INT) for at in range(6))
        members = [own_given("g", INT, num(1)), a_def("f", INT, num(0), params=(("n", UNIT, True),), wants=(("t", TEXT),))]
        world = (given("t", TEXT, text(""), wants=wants),
                 cls("C", *members, a_def("go", INT, ("if", op("<", name("k"), num(1)), num(7), then(
                     call(THIS, "f", ("unit",)), call(THIS, "f", ("unit",)), call(THIS, "go", op("-", name("k"), num(1))))),
                                          params=(("k", INT),))))
        program = (world, call(new("C"), "go", num(90)))
        self.assertEqual(run(program, 5000)[:2], ("value", "7"))
        self.same(program)


class BoundTest(LoweredCase):
    def test_more_than_sixty_objects_and_parts_of_news(self):
        traits = tuple(trait("T" + str(at)) for at in range(6))
        names = ["T" + str(at) for at in range(6)]
        sets = [[one for at, one in enumerate(names) if number >> at & 1] for number in range(64)]
        def program(many, objects):
            news = [new("C", more=one) for one in sets[:many]]
            tools = tuple(obj("o" + str(at), *[a_def("f" + str(k), ANY, news.pop() if news else num(0)) for k in range(12)])
                          for at in range(objects))
            self.assertFalse(news)
            return (traits + (cls("C"),) + tools, call(name("o0"), "f0"))
        self.same(program(54, 6))
        self.assertEqual(len(lowered(program(54, 6))[0]), 60)
        with self.assertRaises(TooMany):
            lowered(program(55, 6))
        with self.assertRaises(TooMany):
            lowered(program(54, 7))
        # The same parts count once, in another sequence they are others.
        twice = (traits + (cls("C"),), then(new("C", more=("T0", "T1")), new("C", more=("T1", "T0")),
                                            new("C", more=("T0", "T1"))))
        self.assertEqual(len(lowered(twice)[0]), 2)
        self.same(twice)

    def test_errors(self):
        for thing in NO_PROGRAMS:
            with self.assertRaises(BadForm):
                lowered(thing)
        with self.assertRaises(NotLetBy) as caught:
            lowered(program=LOST)
        self.assertEqual(caught.exception.what, ("name", ()))

    def test_equal_calls(self):
        for program in ALL_PROGRAMS:
            self.assertEqual(lowered(program), lowered(program))
            self.assertLess(steps_of(program, 5000), 5000)


if __name__ == "__main__":
    unittest.main()
