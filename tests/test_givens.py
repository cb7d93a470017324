"""Givens that are searched, and evidence: points 21 and 22."""

import unittest

from linearmix.checks import check
from linearmix.errors import BadForm, BadKind, BadPlace, NoName, NotLetBy, TooMany
from linearmix.found import found
from linearmix.givens import all_evidence, evidence_fits, evidence_holds, find_given, would_change
from test_kinds import LOST, NO_KINDS
from test_orders import NO_NAMES, NO_PROGRAMS, program
from worlds import (A, ANY, B, CAGES_PROGRAM, COD, FISH, FISHES, INT, NONE, ORDS_PROGRAM, PARAM_A, TEXT, THIS, UNIT,
                    a_def, a_kind, a_val, call, cls, extend, given, kparam, lazy, let, mix, name, new, num, obj, of,
                    own_given, parent, part, text, then, trait, val, var)

STOP = ("stop", "")


def show(kind):
    return of("Show", kind)


def box(kind):
    return of("Box", kind)


SHOW = (
    trait("Show", kparams=PARAM_A), cls("Box", kparams=PARAM_A, vparams=(("v", A),)),
    cls("Shower", kparams=PARAM_A, parents=(parent("Show", kinds=(A,)),)))
DOCUMENT = SHOW + (
    given("showInt", show(INT), new("Shower", kinds=(INT,))),
    given("showBox", show(box(B)), new("Shower", kinds=(box(B),)), kparams=(kparam("B"),), wants=(("s", show(B)),)),
    obj("o", a_def("f", INT, num(1), wants=(("s", show(INT)),))))


def leaf(label):
    return (label, (), ())


class GivensTest(unittest.TestCase):
    def told(self, wanted, kind, *definitions, place=(), main=("unit",)):
        """What is told of a search, and that all else that is told of it agrees."""
        one = (definitions, main)
        self.assertEqual(find_given(one, place, kind), wanted)
        if wanted[0] == "found":
            self.assertIs(evidence_holds(one, place, kind, wanted[1]), True)
            self.assertIs(evidence_fits(one, place, kind, wanted[1]), True)
            self.assertIn(wanted[1], all_evidence(one, place, kind))

    def found(self, evidence, kind, *definitions, **more):
        self.told(("found", evidence), kind, *definitions, **more)

    def at(self, wanted, kind, place, *definitions):
        self.told(wanted, kind, *definitions, place=place)


class SearchTest(GivensTest):
    def test_the_documents_examples(self):
        inner = ("showBox", (INT,), (leaf("showInt"),))
        self.found(("showBox", (box(INT),), (inner,)), show(box(box(INT))), *DOCUMENT)
        self.at(("found", ("showBox", (INT,), (leaf("s"),))), show(box(INT)), ("o", "f"), *DOCUMENT)
        self.told(("none", show(TEXT)), show(TEXT), *DOCUMENT)
        self.told(("none", show(TEXT)), show(box(TEXT)), *DOCUMENT)

    def test_kinds_are_chosen_from_the_wanted_kind_alone(self):
        pair = trait("Pair", kparams=(kparam("A"), kparam("B")))
        self.found(("gi", (INT,), ()), of("Pair", INT, INT), pair, given("gi", of("Pair", A, A), STOP, kparams=PARAM_A))
        self.told(("none", of("Pair", INT, TEXT)), of("Pair", INT, TEXT), pair,
                  given("gi", of("Pair", A, A), STOP, kparams=PARAM_A))
        # What the wanted kind does not tell makes that the given fits nothing.
        self.told(("none", INT), INT, given("gi", INT, STOP, kparams=PARAM_A))
        self.told(("none", ANY), ANY, given("gi", box(A), STOP, kparams=PARAM_A), *SHOW)
        self.found(("gi", (FISH,), ()), box(FISH), *FISHES, *SHOW,
                   given("gi", box(A), STOP, kparams=(kparam("A", "", FISH),)))
        self.told(("none", box(INT)), box(INT), *FISHES, *SHOW,
                  given("gi", box(A), STOP, kparams=(kparam("A", "", FISH),)))

    def test_below_the_wanted_kind(self):
        self.found(leaf("gi"), FISH, *FISHES, given("gi", COD, STOP))
        self.told(("none", COD), COD, *FISHES, given("gi", FISH, STOP))
        self.found(leaf("gi"), ANY, given("gi", NONE, STOP))
        self.found(("gi", (INT,), ()), show(INT), *SHOW, given("gi", of("Shower", A), STOP, kparams=PARAM_A))

    def test_kinds_compared_plain(self):
        cage = cls("Cage", a_kind("K", ANY, INT))
        o = obj("o", a_def("f", INT, num(1), params=(("c", of("Cage")),)), a_kind("K", ANY, TEXT))
        self.at(("found", leaf("gi")), part("c", "K"), ("o", "f"), cage, o, given("gi", INT, STOP))
        self.found(leaf("gi"), TEXT, cage, o, given("gi", part("o", "K"), STOP))

    def test_wants_in_their_sequence(self):
        two = (("one", show(INT)), ("two", show(TEXT)))
        self.told(("none", show(INT)), UNIT, *SHOW, given("gi", UNIT, STOP, wants=two))
        self.told(("none", show(TEXT)), UNIT, *SHOW, given("gi", UNIT, STOP, wants=two), given("si", show(INT), STOP))
        self.found(("gi", (), (leaf("si"), leaf("st"))), UNIT, *SHOW, given("gi", UNIT, STOP, wants=two),
                   given("st", show(TEXT), STOP), given("si", show(INT), STOP))
        # The search that ends first with nothing is told, wherever it is asked for.
        self.told(("none", show(TEXT)), UNIT, *SHOW, given("gi", UNIT, STOP, wants=two[1:]),
                  given("hi", UNIT, STOP, wants=two[:1]))

    def test_a_want_that_is_ambiguous_makes_that_it_does_not_fit(self):
        two = (given("one", INT, STOP), given("two", INT, STOP))
        self.told(("ambiguous", ("one", "two")), INT, *two)
        self.told(("none", TEXT), TEXT, *two, given("gi", TEXT, STOP, wants=(("w", INT),)))
        self.found(leaf("hi"), TEXT, *two, given("gi", TEXT, STOP, wants=(("w", INT),)), given("hi", TEXT, STOP))

    def test_wants_that_name_wants(self):
        cage = trait("Cage", a_kind("K"))
        own = cls("IntCage", a_kind("K", ANY, INT), parents=(parent("Cage"),))
        wants = (("a", of("IntCage")), ("b", show(part("a", "K"))))
        rest = (cage, own, given("cage", of("IntCage"), STOP), given("si", show(INT), STOP))
        self.found(("gi", (), (leaf("cage"), leaf("si"))), UNIT, *SHOW, *rest, given("gi", UNIT, STOP, wants=wants))
        # If it still names the want, the given fits nothing.
        wants = (("a", of("Cage")), ("b", show(part("a", "K"))))
        self.told(("none", UNIT), UNIT, *SHOW, *rest, given("gi", UNIT, STOP, wants=wants))


class LevelsTest(GivensTest):
    def test_wants_this_and_program(self):
        c = cls("C", own_given("mine", INT, STOP), a_def("f", INT, num(1), wants=(("w", INT),)),
                a_def("g", INT, num(1)), a_def("h", INT, num(1), wants=(("w", TEXT),)), vparams=(("v", INT),))
        rest = (c, given("gi", INT, STOP), given("hi", TEXT, STOP), obj("o", parents=(parent("C", num(1)),)))
        self.at(("found", leaf("w")), INT, ("C", "f"), *rest)
        self.at(("found", leaf(("this", "mine"))), INT, ("C", "g"), *rest)
        self.at(("found", leaf(("this", "mine"))), INT, ("C", "h"), *rest)
        self.at(("found", leaf(("this", "mine"))), INT, ("C", "mine"), *rest)
        self.at(("found", leaf("gi")), INT, (), *rest)
        self.at(("found", leaf("gi")), INT, ("gi",), *rest)
        self.at(("found", leaf("gi")), INT, ("C",), *rest)
        self.at(("found", leaf("gi")), INT, ("o",), *rest)
        self.at(("found", leaf("hi")), TEXT, ("C", "g"), *rest)
        self.at(("found", leaf("w")), TEXT, ("C", "h"), *rest)

    def test_extensions_wants_and_those_of_its_def_are_one_level(self):
        ext = extend("ex", ("x", INT), a_def("f", INT, num(1), wants=(("two", INT),)), a_def("g", INT, num(1)),
                     wants=(("one", INT),))
        self.at(("ambiguous", ("one", "two")), INT, ("ex", "f"), ext)
        self.at(("found", leaf("one")), INT, ("ex", "g"), ext)
        both = extend("ex", ("x", INT), a_def("f", INT, num(1), wants=(("one", INT),)), wants=(("one", INT),))
        self.at(("found", leaf("one")), INT, ("ex", "f"), both)

    def test_the_level_of_this(self):
        t = trait("T", own_given("one", FISH, STOP), own_given("two", FISH, STOP))
        c = cls("C", own_given("two", FISH, STOP), a_def("f", INT, num(1)), parents=(parent("T"),))
        self.at(("found", leaf(("this", "two"))), FISH, ("C", "f"), *FISHES, t, c)
        self.at(("ambiguous", (("this", "one"), ("this", "two"))), FISH, ("T", "one"), *FISHES, t, c)
        special = trait("T", own_given("one", COD, STOP))
        self.at(("found", leaf(("this", "one"))), FISH, ("C", "f"), *FISHES, special, c)
        seen = trait("T", own_given("one", show(A), STOP), kparams=PARAM_A)
        self.at(("found", leaf(("this", "one"))), show(INT), ("C", "f"), *SHOW, seen, cls(
            "C", a_def("f", INT, num(1)), parents=(parent("T", kinds=(INT,)),)))

    def test_lets_around_the_place(self):
        def summoned(e, *definitions):
            return dict(found((definitions, e)))[()]
        one = ("given", "one", INT, num(1), ("given", "two", INT, num(2), ("summon", INT)))
        self.assertEqual(summoned(one)[2][1][2][1][3], leaf("two"))
        same = ("given", "one", INT, num(1), ("given", "one", TEXT, text(""), then(("summon", TEXT), ("summon", INT))))
        self.assertEqual(check(((), same)), ("given", (1, 1, 1)))
        self.assertIsNone(check(((given("gi", INT, STOP),), same)))
        # What is named as a given further in hides one of the program; other lets hide none.
        hides = ("given", "gi", TEXT, text(""), ("summon", INT))
        self.assertEqual(check(((given("gi", INT, STOP),), hides)), ("given", (1,)))
        self.assertIsNone(check(((given("gi", INT, STOP),), let("gi", text(""), ("summon", INT)))))
        # In its own e it does not stand yet.
        self.assertEqual(check(((), ("given", "one", INT, ("summon", INT), num(1)))), ("given", (0,)))

    def test_hidden_names(self):
        hides = obj("o", a_def("f", INT, num(1), wants=(("gi", TEXT),)), a_def("g", INT, num(1), params=(("gi", TEXT),)),
                    own_given("gi", UNIT, STOP))
        self.at(("none", INT), INT, ("o", "f"), given("gi", INT, STOP), hides)
        self.at(("found", leaf("gi")), INT, ("o", "g"), given("gi", INT, STOP), hides)

    def test_kinds_that_name_what_is_hidden(self):
        cage, far = cls("Cage", a_kind("K", ANY, INT)), trait("Far", a_kind("K"))
        o = obj("o", a_kind("K", ANY, INT))
        user = obj("user", a_def("f", INT, num(1), params=(("o", INT),)))
        self.at(("found", leaf("gi")), show(INT), ("user", "f"), *SHOW, cage, o, user, given("gi", show(part("o", "K")), STOP))
        main = ("given", "g", show(part("c", "K")), STOP, let("c", num(1), ("summon", show(INT))))
        self.assertIsNone(check((SHOW + (cage,), let("c", new("Cage"), main))))
        main = ("given", "g", show(part("c", "K")), STOP, let("c", num(1), ("summon", show(ANY))))
        holder = cls("Holder", a_def("f", UNIT, then(main, ("unit",)), params=(("c", of("Far")),)))
        self.assertEqual(check((SHOW + (far, holder), ("unit",))), ("given", ("Holder", "f", 0, 1, 1)))


class SpecialTest(GivensTest):
    def test_the_more_special_one(self):
        all1 = given("all1", show(A), STOP, kparams=PARAM_A)
        some = given("some", show(box(A)), STOP, kparams=PARAM_A)
        one = given("one", show(box(INT)), STOP)
        for definitions in ((all1, some, one), (one, some, all1), (some, one, all1)):
            self.found(leaf("one"), show(box(INT)), *SHOW, *definitions)
            self.found(("some", (TEXT,), ()), show(box(TEXT)), *SHOW, *definitions)
            self.found(("all1", (TEXT,), ()), show(TEXT), *SHOW, *definitions)

    def test_by_classes(self):
        self.found(leaf("cod"), FISH, *FISHES, given("fish", FISH, STOP), given("cod", COD, STOP))
        self.found(leaf("cod"), ANY, *FISHES, given("fish", FISH, STOP), given("cod", COD, STOP))
        self.told(("ambiguous", ("cod", "loud")), FISH, *FISHES, given("fish", FISH, STOP), given("cod", COD, STOP),
                  given("loud", of("Loud"), STOP))
        self.found(leaf("both"), FISH, *FISHES, given("cod", COD, STOP), given("loud", of("Loud"), STOP),
                   given("both", mix(COD, of("Loud")), STOP))

    def test_uppers_count_in_choices(self):
        tight = given("tight", show(A), STOP, kparams=(kparam("A", "", FISH),))
        loose = given("loose", show(A), STOP, kparams=PARAM_A)
        self.found(("tight", (COD,), ()), show(COD), *FISHES, *SHOW, loose, tight)
        self.found(("loose", (INT,), ()), show(INT), *FISHES, *SHOW, loose, tight)

    def test_the_first_two_that_are_not_settled(self):
        pairs = (trait("Pair", kparams=(kparam("A"), kparam("B"))), given("low", ANY, STOP),
                 given("left", of("Pair", INT, A), STOP, kparams=PARAM_A),
                 given("right", of("Pair", A, INT), STOP, kparams=PARAM_A),
                 given("all1", of("Pair", A, B), STOP, kparams=(kparam("A"), kparam("B"))))
        self.told(("ambiguous", ("left", "right")), of("Pair", INT, INT), *pairs)
        self.found(("left", (TEXT,), ()), of("Pair", INT, TEXT), *pairs)
        same = (given("one", INT, STOP), given("two", INT, STOP), given("three", INT, STOP))
        self.told(("ambiguous", ("one", "two")), INT, *same)
        self.told(("ambiguous", ("three", "one")), INT, same[2], same[0], same[1])


class BoundsTest(GivensTest):
    def test_rounds(self):
        # gi wants what it is itself: it may not be used again for that kind.
        self.told(("none", INT), INT, given("gi", INT, STOP, wants=(("w", INT),)))
        self.found(("gi", (), (leaf("hi"),)), UNIT, given("gi", UNIT, STOP, wants=(("w", INT),)), given("hi", INT, STOP))
        turn = (given("one", INT, STOP, wants=(("w", TEXT),)), given("two", TEXT, STOP, wants=(("w", INT),)))
        self.told(("none", INT), INT, *turn)
        # Another given for the same kind may be used within; of both that fit neither wins.
        end = given("end", INT, STOP)
        self.told(("ambiguous", ("one", "end")), INT, *turn, end)
        self.found(("two", (), (leaf("end"),)), TEXT, turn[1], end)

    def test_twelve_within_one_another(self):
        loop = given("gi", show(A), STOP, kparams=PARAM_A, wants=(("w", show(box(A))),))
        kind = INT
        for _ in range(12):
            kind = box(kind)
        self.told(("endless", show(kind)), show(INT), *SHOW, loop)
        # Down: each want is smaller; eleven boxes and what is in them are twelve searches.
        down = given("down", show(box(A)), STOP, kparams=PARAM_A, wants=(("w", show(A)),))
        end = given("end", show(INT), STOP)
        o = obj("o", *[a_kind("K" + str(at), ANY, INT if at == 0 else box(part("this", "K" + str(at - 1))))
                       for at in range(12)])
        evidence = leaf("end")
        kind = INT
        for _ in range(11):
            evidence = ("down", (kind,), (evidence,))
            kind = box(kind)
        one = (SHOW + (down, end, o), ("unit",))
        self.assertEqual(find_given(one, (), show(part("o", "K11"))), ("found", evidence))
        self.assertEqual(find_given(one, (), show(box(part("o", "K11")))), ("endless", show(INT)))

    def test_two_hundred_in_all(self):
        # Three levels of six wants each: 1 + 6 + 36 + 216 searches for other kinds.
        six = tuple([trait("C" + str(at), kparams=PARAM_A) for at in range(6)])
        def grows(word, to):
            return given(word, of("L" + word, A), STOP, kparams=PARAM_A, wants=tuple(
                [("w" + str(at), of("L" + to, of("C" + str(at), A))) for at in range(6)]))
        levels = tuple([trait("L" + word, kparams=PARAM_A) for word in ("a", "b", "c", "d")])
        givens = (grows("a", "b"), grows("b", "c"), grows("c", "d"), given("d", of("Ld", A), STOP, kparams=PARAM_A))
        word, kind = find_given((six + levels + givens, ("unit",)), (), of("La", INT))
        self.assertEqual(word, "endless")
        # From b on they are 43.
        self.assertEqual(find_given((six + levels + givens, ("unit",)), (), of("Lb", INT))[0], "found")
        # a and four times 43 are 173, then b, three times a c with six d, a c, four d; the next one is too many.
        self.assertEqual(kind, of("Ld", of("C4", of("C3", of("C4", INT)))))

    def test_what_was_found_is_not_counted_again(self):
        kinds = tuple([trait("S" + str(at)) for at in range(6)])
        givens = tuple([given("g" + str(at), of("S" + str(at)), STOP, wants=tuple(
            [("w" + str(number), of("S" + str(at + 1))) for number in range(3)])) for at in range(4)])
        last = given("last", of("S4"), STOP)
        one = (kinds + givens + (last,), ("unit",))
        self.assertEqual(find_given(one, (), of("S0"))[0], "found")

    def test_a_great_evidence(self):
        kinds = tuple([trait("S" + str(at)) for at in range(6)])
        givens = tuple([given("g" + str(at), of("S" + str(at)), STOP, wants=tuple(
            [("w" + str(number), of("S" + str(at + 1))) for number in range(6)])) for at in range(3)])
        one = (kinds + givens + (given("last", of("S3"), STOP),), ("unit",))
        self.assertEqual(find_given(one, (), of("S1"))[0], "found")
        self.assertEqual(find_given(one, (), of("S0")), ("endless", of("S0")))


class EvidenceTest(GivensTest):
    def test_holds_is_what_is_found_alone(self):
        one = (DOCUMENT, ("unit",))
        right = ("showBox", (INT,), (leaf("showInt"),))
        self.assertIs(evidence_holds(one, (), show(box(INT)), right), True)
        for thing in (None, 5, [], (), "showBox", list(right), right[:2], right + ((),), leaf("showInt"),
                      ("showBox", (TEXT,), (leaf("showInt"),)), ("showBox", (INT,), ()), ("showBox", [INT], right[2]),
                      ("showBox", (INT,), [leaf("showInt")]), ("showBox", (INT,), (leaf("s"),)),
                      ("showBox", (INT,), (leaf("showInt"), leaf("showInt"))), ("s", (INT,), right[2]),
                      (("this", "showBox"), (INT,), right[2])):
            self.assertIs(evidence_holds(one, (), show(box(INT)), thing), False)
            self.assertIs(evidence_fits(one, (), show(box(INT)), thing), False)
        self.assertIs(evidence_holds(one, (), show(TEXT), leaf("showInt")), False)

    def test_fits_found_or_not(self):
        one = (DOCUMENT, ("unit",))
        place, kind = ("o", "f"), show(box(INT))
        self.assertIs(evidence_fits(one, place, kind, ("showBox", (INT,), (leaf("s"),))), True)
        self.assertIs(evidence_fits(one, place, kind, ("showBox", (INT,), (leaf("showInt"),))), True)
        self.assertIs(evidence_holds(one, place, kind, ("showBox", (INT,), (leaf("showInt"),))), False)
        # At main there is no s.
        self.assertIs(evidence_fits(one, (), kind, ("showBox", (INT,), (leaf("s"),))), False)
        two = program(given("one", INT, STOP), given("two", INT, STOP), given("w", INT, STOP, wants=(("w", INT),)))
        self.assertIs(evidence_fits(two, (), INT, leaf("two")), True)

    def test_rounds_may_stand_in_it(self):
        one = program(given("gi", INT, STOP, wants=(("w", INT),)), given("end", INT, STOP))
        evidence = leaf("end")
        for _ in range(5):
            evidence = ("gi", (), (evidence,))
        self.assertIs(evidence_fits(one, (), INT, evidence), True)

    def test_two_hundred_givens(self):
        one = program(given("gi", INT, STOP, wants=tuple([("w" + str(at), INT) for at in range(6)])),
                      given("end", INT, STOP), given("two", INT, STOP, wants=(("a", INT), ("b", INT))))
        six = ("gi", (), (leaf("end"),) * 6)
        deep = ("gi", (), (six,) * 6)
        self.assertIs(evidence_fits(one, (), INT, deep), True)
        self.assertIs(evidence_fits(one, (), INT, ("gi", (), (deep,) * 6)), False)

        def of_size(size):
            return leaf("end") if size == 1 else ("two", (), (leaf("end"), of_size(size - 2)))
        self.assertIs(evidence_fits(one, (), INT, of_size(199)), True)
        self.assertIs(evidence_fits(one, (), INT, of_size(201)), False)

    def test_all_of_it(self):
        one = (DOCUMENT, ("unit",))
        self.assertEqual(all_evidence(one, (), show(TEXT)), [])
        self.assertEqual(all_evidence(one, ("o", "f"), show(INT)), [leaf("s"), leaf("showInt")])
        self.assertEqual(all_evidence(program=one, place=("o", "f"), kind=show(box(INT))),
                         [("showBox", (INT,), (leaf("s"),)), ("showBox", (INT,), (leaf("showInt"),))])
        c = cls("C", own_given("b", INT, STOP), own_given("a", INT, STOP), a_def("f", INT, num(1), wants=(("z", INT),)))
        self.assertEqual(all_evidence(program(c, given("gi", INT, STOP)), ("C", "f"), INT),
                         [leaf("gi"), leaf("z"), leaf(("this", "a")), leaf(("this", "b"))])

    def test_rounds_and_four_within_one_another(self):
        turn = program(given("one", INT, STOP, wants=(("w", TEXT),)), given("two", TEXT, STOP, wants=(("w", INT),)),
                       given("end", INT, STOP))
        self.assertEqual(all_evidence(turn, (), INT), [leaf("end")])
        self.assertEqual(all_evidence(turn, (), TEXT), [("two", (), (leaf("end"),))])
        def chain(many):
            traits = tuple([trait("T" + str(at)) for at in range(many)])
            return (traits + tuple([given("g" + str(at), of("T" + str(at)), STOP, wants=() if at == many - 1 else (
                ("w", of("T" + str(at + 1))),)) for at in range(many)]), ("unit",))
        self.assertEqual(len(all_evidence(chain(4), (), of("T0"))), 1)
        self.assertEqual(all_evidence(chain(5), (), of("T0")), [])
        self.assertEqual(find_given(chain(5), (), of("T0"))[0], "found")

    def test_too_many(self):
        def wide(many, wants):
            return ((trait("S"),) + tuple([given("g" + str(at), INT, STOP) for at in range(many)]) + (
                given("top", of("S"), STOP, wants=tuple([("w" + str(at), INT) for at in range(wants)])),), ("unit",))
        self.assertEqual(len(all_evidence(wide(14, 2), (), of("S"))), 196)
        with self.assertRaises(TooMany):
            all_evidence(wide(15, 2), (), of("S"))
        self.assertEqual(len(all_evidence(wide(15, 2), (), INT)), 15)

    def test_lists_are_new(self):
        one = (DOCUMENT, ("unit",))
        all_evidence(one, (), show(INT)).clear()
        self.assertEqual(all_evidence(one, (), show(INT)), [leaf("showInt")])


class WouldChangeTest(unittest.TestCase):
    def test_searches_that_find_something_else(self):
        asks = obj("asks", a_def("ask", INT, num(1), params=(("x", A),), kparams=PARAM_A, wants=(("s", show(A)),)),
                   a_def("both", INT, call(THIS, "ask", num(1))))
        loose = given("loose", show(A), STOP, kparams=PARAM_A)
        main = then(("summon", show(box(INT))), call(name("asks"), "ask", text("")),
                    ("given", "near", show(UNIT), STOP, then(("summon", show(UNIT)), ("summon", show(INT)))))
        one = (SHOW + DOCUMENT[3:5] + (asks, loose), main)
        self.assertEqual(would_change(one, "showInt"), [((), show(INT)), ((), show(box(INT))), (("asks", "both"), show(INT))])
        self.assertEqual(would_change(one, "showBox"), [((), show(box(INT)))])
        self.assertEqual(would_change(program=one, name="loose"), [((), show(TEXT))])

    def test_not_those_in_its_own_body(self):
        own = given("gi", INT, then(("summon", TEXT), num(1)))
        one = program(own, given("hi", TEXT, then(("summon", INT), text(""))))
        self.assertEqual(would_change(one, "hi"), [(("gi",), TEXT)])
        self.assertEqual(would_change(one, "gi"), [(("hi",), INT)])
        self.assertEqual(would_change((one[0] + (given("ji", UNIT, STOP),), ("unit",)), "ji"), [])

    def test_each_list_is_new(self):
        one = ((given("gi", INT, STOP),), ("summon", INT))
        would_change(one, "gi").clear()
        self.assertEqual(would_change(one, "gi"), [((), INT)])

    def test_errors(self):
        one = (DOCUMENT, ("unit",))
        for thing in NO_NAMES + ("eel", "o", "Box", "s"):
            with self.assertRaises(NoName):
                would_change(one, thing)
        for thing in NO_PROGRAMS:
            with self.assertRaises(BadForm):
                would_change(thing, 5)
        with self.assertRaises(NotLetBy):
            would_change(LOST, 5)


class ErrorsTest(unittest.TestCase):
    def test_errors_and_their_sequence(self):
        one = (DOCUMENT + (extend("ex", ("x", INT), a_def("f", INT, num(1))),), ("unit",))
        works = (find_given, all_evidence, lambda *told: evidence_holds(*told, 5), lambda *told: evidence_fits(*told, 5))
        for work in works:
            for thing in NO_KINDS + (A, of("Eel"), of("Box"), part("x", "K")):
                with self.assertRaises(BadKind):
                    work(one, (), thing)
            for thing in (None, [], 5, "o", (5,), ("o", "f", "g"), ("a b",), ((), ()), ["o", "f"]):
                with self.assertRaises(BadPlace):
                    work(one, thing, 5)
            for thing in (("eel",), ("o", "g"), ("Show",), ("ex",), ("ex", "g"), ("showInt", "f"), ("f",)):
                with self.assertRaises(BadPlace):
                    work(one, thing, A)
                with self.assertRaises(BadKind):
                    work(one, thing, 5)
            for thing in NO_PROGRAMS:
                with self.assertRaises(BadForm):
                    work(thing, 5, 5)
            with self.assertRaises(NotLetBy):
                work(LOST, 5, 5)
        for place in ((), ("o",), ("o", "f"), ("Box",), ("Shower",), ("showInt",), ("ex", "f")):
            self.assertEqual(find_given(program=one, place=place, kind=TEXT), ("none", TEXT))


if __name__ == "__main__":
    unittest.main()
