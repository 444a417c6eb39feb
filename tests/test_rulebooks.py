"""Tests of bestheard.rulebooks: rulebooks that are made, and those that are refused."""

import copy
import inspect
import itertools
import unittest

from bestheard.cases import read_case
from bestheard.errors import BestError, InvalidField, InvalidKind, InvalidTie
from bestheard.rulebooks import Rulebook
from samples import AGES, ANY_VALUES, ROADS, Maker

FIELDS = [("age", ("0", "1", "2")), ("via", ("a", "b"))]
KEEP = ((), ())
DROP = ((), None)
TIES = [("link", (KEEP,)), ("road", (DROP, KEEP)), ("path", (((("age", "<", "2"),), (("via", "b"),)),))]
KINDS = [("plain", (), None, None), ("root", (("via", "-"), ("age", "+")), (KEEP,), ("0", "b"))]


def made(fields=None, ties=None, kinds=None):
    """Return a rulebook with these parts, with right ones where none are given."""
    given = [right if part is None else part for part, right in ((fields, FIELDS), (ties, TIES), (kinds, KINDS))]
    return Rulebook(given[0], ties=given[1], kinds=given[2])


def at_each_position(items, wrong):
    """Return pairs of a list with a wrong item among right ones, and its position."""
    return [([*items[:at], wrong, *items[at:]], at) for at in range(len(items) + 1)]


class MadeTest(unittest.TestCase):
    def check_parts(self, fields, ties, kinds):
        book = Rulebook(fields, ties=ties, kinds=kinds)
        self.assertEqual([book.fields(), book.ties(), book.kinds()], [list(fields), list(ties), list(kinds)])
        self.assertEqual(book.tie_names(), [name for name, _ in ties])
        self.assertEqual(book.kind_names(), [kind[0] for kind in kinds])
        self.assertEqual(book.all_values(), list(itertools.product(*[options for _, options in fields])))
        for found in (book.fields(), book.ties(), book.kinds(), book.tie_names(), book.kind_names()):
            self.assertIsInstance(found, list)

    def test_one_two_and_three_fields(self):
        for fields in ([("a", ("x", "y"))], [("a", ("1", "0", "2", "5", "4", "3"))],
                       [("abcdefgh", ("12345678", "abcdefgh")), ("b", ("0", "1"))],
                       [("a", tuple("abcdef")), ("b", tuple("abcd"))], [("a", tuple("abcd")), ("b", tuple("abcdef"))],
                       [("a", tuple("abcdef")), ("b", ("0", "1")), ("c", ("0", "1"))],
                       [("a", ("0", "1")), ("b", ("2", "1", "0")), ("c", tuple("dcba"))]):
            self.check_parts(fields, [("t", (DROP,))], [("k", (), None, None)])

    def test_values_in_the_order_of_the_options(self):
        book = made(fields=[("age", ("2", "0")), ("via", ("b", "a"))], ties=[("t", (DROP,))],
                    kinds=[("k", (), None, None)])
        self.assertEqual(book.all_values(), [("2", "b"), ("2", "a"), ("0", "b"), ("0", "a")])

    def test_one_to_four_ties_and_one_to_three_kinds(self):
        ties = [("a", (KEEP,)), ("b", (DROP,)), ("c", (KEEP,) * 8), ("abcdefgh", TIES[2][1])]
        kinds = [("a", (), None, None), ("b", (("age", "-"), ("via", "+")), None, ("2", "b")),
                 ("abcdefgh", (("via", "+"),), (DROP,) * 8, None)]
        for many in range(1, 5):
            self.check_parts(FIELDS, ties[:many], kinds)
        for many in range(1, 4):
            self.check_parts(FIELDS, ties, kinds[:many])

    def test_fields_ties_and_kinds_may_share_names(self):
        self.check_parts([("a", ("a", "b"))], [("a", (KEEP,))], [("a", (), None, None)])

    def test_six_tests_and_six_steps(self):
        tests = (("age", "=", "0"), ("age", "!", "1"), ("age", "<", "2"), ("age", ">", "0"), ("via", "=", "a"),
                 ("via", "=", "a"))
        steps = (("age", "+"), ("age", "2"), ("via", "a"), ("via", "+"), ("age", "0"), ("age", "0"))
        program = ((tests, steps), (tests, None), ((), steps))
        self.check_parts(FIELDS, [("t", program)], [("k", (), program, None)])

    def test_tuples_instead_of_lists(self):
        self.check_parts(tuple(FIELDS), tuple(TIES), tuple(KINDS))
        self.assertEqual(made(tuple(FIELDS), tuple(TIES), tuple(KINDS)), made())

    def test_made_ones(self):
        for seed in range(40):
            self.check_parts(*Maker(seed).parts())

    def test_by_position_and_by_name(self):
        self.assertEqual(Rulebook(fields=FIELDS, kinds=KINDS, ties=TIES), made())
        found = inspect.signature(Rulebook)
        self.assertEqual(str(found), "(fields, *, ties, kinds)")
        with self.assertRaises(TypeError):
            Rulebook(FIELDS, TIES, KINDS)

    def test_class_values(self):
        self.assertEqual([Rulebook.MAX_VALUES, Rulebook.MAX_TIES, Rulebook.MAX_KINDS], [24, 4, 3])
        self.assertEqual([made().MAX_VALUES, made().MAX_TIES, made().MAX_KINDS], [24, 4, 3])

    def test_methods_stand_in_the_class_itself(self):
        for name in ("read is_valid fields ties kinds tie_names kind_names all_values text order birth offer best "
                     "is_better __call__ __eq__ __repr__").split():
            self.assertIn(name, vars(Rulebook))


class SameTest(unittest.TestCase):
    def test_lists_that_are_changed_later(self):
        fields, ties, kinds = list(FIELDS), list(TIES), list(KINDS)
        book = Rulebook(fields, ties=ties, kinds=kinds)
        text = book.text()
        for items in (fields, ties, kinds):
            items.reverse()
            items.append(5)
        self.assertEqual([book.text(), book], [text, made()])
        for method in (book.fields, book.ties, book.kinds, book.tie_names, book.kind_names, book.all_values,
                       lambda: book.order("plain")):
            method().clear()
            method().append(5)
        self.assertEqual([book.text(), book], [text, made()])
        self.assertEqual(len(book.all_values()), 6)
        self.assertEqual(len(book.order("plain")), 7)

    def test_arguments_are_not_changed(self):
        given = [copy.deepcopy(FIELDS), copy.deepcopy(TIES), copy.deepcopy(KINDS)]
        Rulebook(given[0], ties=given[1], kinds=given[2])
        self.assertEqual(given, [FIELDS, TIES, KINDS])

    def test_equal_and_different_ones(self):
        book = made()
        self.assertTrue(book == made() and not book != made())
        others = [made(fields=[("age", ("0", "1", "2")), ("via", ("a", "b", "c"))]),
                  made(fields=[*FIELDS, ("more", ("0", "1"))], kinds=KINDS[:1]),
                  made(ties=TIES[:2]), made(ties=TIES[::-1]), made(ties=[("link", (DROP,)), *TIES[1:]]),
                  made(kinds=KINDS[:1]), made(kinds=KINDS[::-1]),
                  made(kinds=[("plain", (), None, ("0", "a")), KINDS[1]]),
                  made(kinds=[("plain", (), (KEEP,), None), KINDS[1]]),
                  made(kinds=[("plain", (("age", "+"),), None, None), KINDS[1]])]
        for other in others:
            self.assertTrue(book != other and not book == other)
        self.assertNotEqual(made(fields=FIELDS[:1], ties=TIES[:1], kinds=KINDS[:1]),
                            made(fields=[("age", ("0", "2", "1"))], ties=TIES[:1], kinds=KINDS[:1]))

    def test_a_rulebook_equals_nothing_else(self):
        book = made()
        for other in [*ANY_VALUES, book.text(), FIELDS, (FIELDS, TIES, KINDS)]:
            self.assertFalse(book == other)
            self.assertTrue(book != other)

    def test_repr(self):
        self.assertEqual(repr(made()), "Rulebook(2 fields, 3 ties, 2 kinds)")
        self.assertEqual(repr(Rulebook.read(AGES)), "Rulebook(1 fields, 1 ties, 2 kinds)")
        self.assertEqual(repr(Rulebook.read(ROADS)), "Rulebook(2 fields, 2 ties, 3 kinds)")


NO_LISTS = [None, True, 5, "", "abc", [], ()]

WRONG_FIELDS = [
    *ANY_VALUES, ["f", ("0", "1")], ("f", ["0", "1"]), ("f",), ("f", ("0", "1"), ()), ("", ("0", "1")),
    ("F", ("0", "1")), ("f1", ("0", "1")), ("abcdefghi", ("0", "1")), (5, ("0", "1")), (None, ("0", "1")),
    (["f"], ("0", "1")), (("f",), ("0", "1")), ("f", ()), ("f", ("0",)), ("f", tuple("0123456")), ("f", ("0", "0")),
    ("f", ("0", "1", "2", "1")), ("f", ("0", "")), ("f", ("0", "A")), ("f", ("0", "a b")), ("f", ("123456789", "0")),
    ("f", ("0", 1)), ("f", (0, 1)), ("f", ("0", None)), ("f", (True, False)), ("f", ("0", ["1"])), ("f", "01"),
    ("f", {"0": 1, "1": 2}), ("f", ("0", "+")), ("f", (["0"], ["0"])), "fo",
]

WRONG_PROGRAMS = [
    *ANY_VALUES, [KEEP], (KEEP,) * 9, (KEEP, None), KEEP, ([(), ()],), (([], ()),), (((), []),), (((),),),
    (((), (), ()),), ((None, ()),), (((), False),), (((), "keep"),), "when always do keep", ("when always do keep",),
    ((((("age", "=", "0"),) * 7), ()),), (((), (("age", "+"),) * 7),),
    (((("age", "=", "0"), 5), ()),), (((("age", "="),), ()),), (((("age", "=", "0", "1"),), ()),),
    (((["age", "=", "0"],), ()),), ((("age", "=", "0"), ()),), ((("age=0",), ()),),
    (((("far", "=", "0"),), ()),), (((("age", "=", "3"),), ()),), (((("age", "=", "a"),), ()),),
    (((("via", "=", "0"),), ()),), (((("age", "==", "0"),), ()),), (((("age", "+", "0"),), ()),),
    (((("age", "", "0"),), ()),), (((("age", None, "0"),), ()),), (((("age", ["="], "0"),), ()),),
    (((("age", "=", 0),), ()),), (((("age", "=", None),), ()),), (((("age", "=", "+"),), ()),),
    (((("age", "=", ("0", "1")),), ()),), ((((5, "=", "0"),), ()),), ((((["age"], "=", "0"),), ()),),
    ((((None, "=", "0"),), ()),), (((("age", "=", ["0"]),), ()),),
    (((), (("far", "0"),)),), (((), (("far", "+"),)),), (((), (("age", "3"),)),), (((), (("age", "a"),)),),
    (((), (("age", "-"),)),), (((), (("age", "++"),)),), (((), (("age", ""),)),), (((), (("age",),)),),
    (((), (("age", "0", "1"),)),), (((), (["age", "0"],)),), (((), ("age+",)),), (((), ((5, "+"),)),),
    (((), ((None, "+"),)),), (((), ((["age"], "+"),)),), (((), (("age", 0),)),), (((), (("age", None),)),),
    (((), (("age", ["+"]),)),), (((), (("age", "+"), None)),), (((), ("age", "+")),),
]

WRONG_NAMES = [value for value in ANY_VALUES if value not in ("a", "age")] + ["abcdefghi", "a1", "a.0", "A", " a"]

WRONG_KEYS = [
    *[value for value in ANY_VALUES if value != ()], [("age", "+")], (["age", "+"],), (("age",),),
    (("age", "+", "-"),), (("far", "+"),), (("age", "="),), (("age", ""),), (("age", None),), (("age", ["+"]),),
    ((None, "+"),), ((5, "+"),), ((["age"], "+"),), (("age", "+"), ("age", "-")), (("age", "+"), ("age", "+")),
    (("age", "+"), ("via", "-"), ("age", "+")), (("age", "+"), 5), ("age", "+"), ("age+",), "age+",
    (("age", "+"), ("via", "+"), ("age", "-"), ("via", "-")),
]

WRONG_BIRTHS = [
    *[value for value in ANY_VALUES if value is not None], ("0", "a", "b"), ["0", "a"], ("a", "0"), ("3", "a"),
    ("0", None), (0, "a"), ("0", ["a"]), "0a", "0 a", ((), ()), (("0", "a"),), ("+", "a"),
]

WRONG_KINDS = [
    *ANY_VALUES, ["k", (), None, None], ("k",), ("k", (), None), ("k", (), None, None, None),
    *[(name, (), None, None) for name in WRONG_NAMES],
    *[("k", keys, None, None) for keys in WRONG_KEYS],
    *[("k", (), taking, None) for taking in WRONG_PROGRAMS if taking is not None],
    *[("k", (), None, birth) for birth in WRONG_BIRTHS],
]


class RefusedTest(unittest.TestCase):
    def check_refused(self, wrong, position, fields=None, ties=None, kinds=None):
        with self.assertRaises(BestError) as caught:
            made(fields, ties, kinds)
        self.assertIs(caught.exception.__class__, wrong, (fields, ties, kinds))
        self.assertEqual(caught.exception.position, position, (fields, ties, kinds))
        self.assertIs(caught.exception.position.__class__, int)

    def test_wrong_fields(self):
        for wrong in WRONG_FIELDS:
            for fields, position in at_each_position(FIELDS, wrong):
                self.check_refused(InvalidField, position, fields=fields)
                self.check_refused(InvalidField, position, fields=tuple(fields))

    def test_a_name_that_stands_before_and_a_fourth_field(self):
        self.check_refused(InvalidField, 1, fields=[FIELDS[0], ("age", ("x", "y"))])
        self.check_refused(InvalidField, 2, fields=[*FIELDS, ("age", ("x", "y"))])
        self.check_refused(InvalidField, 2, fields=[*FIELDS, ("via", ("x", "y"))])
        self.check_refused(InvalidField, 3, fields=[(name, ("0", "1")) for name in "abcd"])
        self.check_refused(InvalidField, 3, fields=[(name, ("0", "1")) for name in "abcde"])

    def test_more_than_24_values(self):
        six, five, two = tuple("abcdef"), tuple("abcde"), ("0", "1")
        self.check_refused(InvalidField, 1, fields=[("a", five), ("b", five)])
        self.check_refused(InvalidField, 1, fields=[("a", six), ("b", six)])
        self.check_refused(InvalidField, 1, fields=[("a", six), ("b", five), ("c", two)])
        self.check_refused(InvalidField, 2, fields=[("a", two), ("b", five), ("c", ("0", "1", "2"))])
        self.check_refused(InvalidField, 2, fields=[("a", five), ("b", two), ("c", ("0", "1", "2"))])

    def test_wrong_ties(self):
        for wrong in [*ANY_VALUES, ["t", (KEEP,)], ("t",), ("t", (KEEP,), None),
                      *[(name, (KEEP,)) for name in WRONG_NAMES], *[("t", program) for program in WRONG_PROGRAMS],
                      *[("t", (KEEP, DROP, *program)) for program in WRONG_PROGRAMS
                        if isinstance(program, tuple) and len(program) > 0]]:
            for ties, position in at_each_position(TIES, wrong):
                self.check_refused(InvalidTie, position, ties=ties)
                self.check_refused(InvalidTie, position, ties=tuple(ties))

    def test_a_tie_that_stands_before_and_a_fifth_one(self):
        self.check_refused(InvalidTie, 1, ties=[TIES[0], ("link", (DROP,))])
        self.check_refused(InvalidTie, 3, ties=[*TIES, ("road", (DROP,))])
        self.check_refused(InvalidTie, 4, ties=[(name, (KEEP,)) for name in "abcde"])
        self.check_refused(InvalidTie, 4, ties=[(name, (KEEP,)) for name in "abcdef"])

    def test_wrong_kinds(self):
        for wrong in WRONG_KINDS:
            for kinds, position in at_each_position(KINDS, wrong):
                self.check_refused(InvalidKind, position, kinds=kinds)
                self.check_refused(InvalidKind, position, kinds=tuple(kinds))

    def test_a_kind_that_stands_before_and_a_fourth_one(self):
        self.check_refused(InvalidKind, 1, kinds=[KINDS[0], ("plain", (), (KEEP,), None)])
        self.check_refused(InvalidKind, 2, kinds=[*KINDS, ("plain", (), None, None)])
        self.check_refused(InvalidKind, 3, kinds=[(name, (), None, None) for name in "abcd"])
        self.check_refused(InvalidKind, 3, kinds=[(name, (), None, None) for name in "abcde"])

    def test_none_at_all_and_no_lists(self):
        for wrong in NO_LISTS:
            if wrong is not None:
                self.check_refused(InvalidField, 0, fields=wrong)
                self.check_refused(InvalidTie, 0, ties=wrong)
                self.check_refused(InvalidKind, 0, kinds=wrong)
        for error, given in ((InvalidField, (None, TIES, KINDS)), (InvalidTie, (FIELDS, None, KINDS)),
                             (InvalidKind, (FIELDS, TIES, None))):
            with self.assertRaises(error) as caught:
                Rulebook(given[0], ties=given[1], kinds=given[2])
            self.assertEqual(caught.exception.position, 0)

    def test_two_at_once(self):
        self.check_refused(InvalidField, 1, fields=[FIELDS[0], 5, None])
        self.check_refused(InvalidField, 1, fields=[FIELDS[0], ("age", ("0",))], ties=[5], kinds=[5])
        self.check_refused(InvalidField, 0, fields=[], ties=[], kinds=[])
        self.check_refused(InvalidField, 0, fields=7, ties=7, kinds=7)
        self.check_refused(InvalidTie, 2, ties=[*TIES[:2], 5, None], kinds=[])
        self.check_refused(InvalidTie, 0, ties=[], kinds=7)
        self.check_refused(InvalidTie, 1, ties=[TIES[0], None, None], kinds=[None])
        self.check_refused(InvalidKind, 1, kinds=[KINDS[0], ("plain", 5, 5, 5), None])

    def test_programs_of_other_fields(self):
        case = read_case("when via=a do via:b")
        self.check_refused(InvalidTie, 0, fields=FIELDS[:1], ties=[("t", (case,))])
        self.check_refused(InvalidKind, 0, fields=FIELDS[:1], ties=TIES[:1], kinds=[("k", (), (case,), None)])


if __name__ == "__main__":
    unittest.main()
