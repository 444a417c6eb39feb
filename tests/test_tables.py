"""Tests of bestheard.tables: tables of rulebooks and of mixtures."""

import inspect
import unittest

from bestheard.errors import BooksDiffer, InvalidCount, InvalidHolding, UnknownKind, UnknownTie
from bestheard.rulebooks import Rulebook
from bestheard.tables import Tables, mixture, tables_of
from samples import AGES, ANY_VALUES, ROADS, ErrorCase, Maker

NO_NAMES = [*ANY_VALUES, "plains", "plain.0", "link ", ["plain"], ("link",)]
NO_HOLDINGS = [value for value in ANY_VALUES if value is not None and value != ("0",)]
NO_HOLDINGS += [["0"], ("3",), ("0", "0"), (0,), (None,), (["0"],), ("",), "0"]
NO_PLACES = [value for value in ANY_VALUES if not isinstance(value, int) or isinstance(value, bool)]
NO_PLACES += [-1, -10 ** 29, 4, 5, 24, 10 ** 29, "0", (0,), [0], ("0",)]


def changed(text, *pairs):
    """Return the rulebook of a text in which some words are put in the place of others."""
    for old, new in pairs:
        assert old in text
        text = text.replace(old, new)
    return Rulebook.read(text)


class TablesTest(unittest.TestCase):
    def check_members(self, tables, members, ties):
        """Check the tables of kinds that are named, each with a rulebook and a kind of it."""
        self.assertEqual([tables.kinds(), tables.ties()], [list(members), ties])
        for name, (book, kind) in members.items():
            self.assertEqual(tables.order(name), book.order(kind))
            self.assertEqual(tables.size, len(book.all_values()) + 1)
            self.assertEqual(tables.order(name)[tables.birth(name)], book.birth(kind))
            for place, holding in enumerate(book.order(kind)):
                self.assertEqual(tables.place(name, holding), place)
        for tie in ties:
            for source in members:
                for target, (book, kind) in members.items():
                    for place, holding in enumerate(tables.order(source)):
                        offer = book.offer(tie, kind, holding)
                        self.assertEqual(tables.lead(tie, source, target, place), book.order(kind).index(offer))

    def test_of_a_rulebook(self):
        for book in [Rulebook.read(AGES), Rulebook.read(ROADS), *[Maker(seed).book() for seed in range(20)]]:
            tables = tables_of(book)
            self.assertIsInstance(tables, Tables)
            self.check_members(tables, {kind: (book, kind) for kind in book.kind_names()}, book.tie_names())

    def test_the_tables_of_the_example(self):
        tables = tables_of(book=Rulebook.read(AGES))
        self.assertEqual([tables.size, tables.kinds(), tables.ties()], [4, ["plain", "root"], ["link"]])
        self.assertEqual(tables.order(kind="plain"), [("0",), ("1",), ("2",), None])
        self.assertEqual([tables.birth(kind="plain"), tables.birth("root")], [3, 0])
        self.assertEqual([tables.place(kind="root", holding=None), tables.place("root", ("1",))], [3, 1])
        self.assertEqual([tables.lead(place=place, target="root", source="plain", tie="link") for place in range(4)],
                         [1, 2, 3, 3])

    def test_orders_that_differ_from_kind_to_kind(self):
        tables = tables_of(changed(AGES, ("cell root\n", "cell root age-\n")))
        self.assertEqual([tables.order("root"), tables.birth("root")], [[("2",), ("1",), ("0",), None], 2])
        self.assertEqual([tables.lead("link", "plain", "root", place) for place in range(4)], [1, 0, 3, 3])
        self.assertEqual([tables.lead("link", "root", "plain", place) for place in range(4)], [3, 2, 1, 3])

    def test_of_mixtures(self):
        books = [Rulebook.read(AGES), changed(AGES, ("age=2", "age>0"), ("cell plain age+", "cell plain age-")),
                 changed(AGES, ("cell plain age+\n", "cell plain age-\nwhen age!0 do age:0\nborn 2\n"),
                         ("age=2 do drop", "age=2 do keep"))]
        for chosen in ([0], [1], [0, 1], [1, 0], [2, 2], [0, 1, 2], [2, 0, 1], [1, 1, 1]):
            given = [books[at] for at in chosen]
            members = {f"{kind}.{at}": (book, kind) for at, book in enumerate(given) for kind in book.kind_names()}
            self.check_members(mixture(*given), members, ["link"])

    def test_of_mixtures_of_made_ones(self):
        for seed in range(20):
            maker = Maker(seed)
            fields, ties, kinds = maker.parts()
            books = [Rulebook(fields, ties=[(name, maker.program(fields)) for name, _ in ties],
                              kinds=[maker.kind(kind[0], fields) for kind in kinds]) for _ in range(1 + seed % 3)]
            members = {f"{kind}.{at}": (book, kind) for at, book in enumerate(books) for kind in book.kind_names()}
            self.check_members(mixture(*books), members, [name for name, _ in ties])

    def test_lists_are_new(self):
        tables = tables_of(Rulebook.read(ROADS))
        for method in (tables.kinds, tables.ties, lambda: tables.order("port")):
            before = method()
            method().reverse()
            method().append(5)
            self.assertEqual(method(), before)
        self.assertEqual(tables, tables_of(Rulebook.read(ROADS)))
        self.assertEqual(str(inspect.signature(mixture)), "(*books)")

    def test_methods_stand_in_the_class_itself(self):
        for name in "size kinds ties order place birth lead __eq__ __repr__".split():
            self.assertIn(name, vars(Tables))
        self.assertIsInstance(vars(Tables)["size"], property)

    def test_repr(self):
        self.assertEqual(repr(tables_of(Rulebook.read(AGES))), "Tables(2 kinds, 1 ties, 4 places)")
        self.assertEqual(repr(tables_of(Rulebook.read(ROADS))), "Tables(3 kinds, 2 ties, 7 places)")
        self.assertEqual(repr(mixture(*[Rulebook.read(ROADS)] * 3)), "Tables(9 kinds, 2 ties, 7 places)")

    def test_equal_ones(self):
        book = Rulebook.read(AGES)
        for other in (Rulebook.read(AGES),
                      # The same by another text: a key that changes no order, cases that come to the same.
                      changed(AGES, ("cell plain age+", "cell plain")), changed(AGES, ("when age=2", "when age>1")),
                      changed(AGES, ("age=2 do drop", "age!0 and age!1 do drop")),
                      changed(AGES, ("cell root\n", "cell root\nwhen always do keep\n"))):
            self.assertTrue(tables_of(book) == tables_of(other) and not tables_of(book) != tables_of(other))
            self.assertTrue(mixture(book, other) == mixture(other, book))

    def test_different_ones(self):
        book = Rulebook.read(AGES)
        for other in (changed(AGES, ("plain", "plan")), changed(AGES, ("tie link", "tie road")),
                      changed(AGES, ("cell plain age+", "cell plain age-")), changed(AGES, ("born 0", "born 1")),
                      changed(AGES, ("born 0\n", "")), changed(AGES, ("age=2 do drop", "age>0 do drop")),
                      changed(AGES, ("field age 0 1 2", "field age 0 1 2 3")),
                      changed(AGES, ("cell root\n", "cell root age-\n")),
                      changed(AGES, ("cell root\n", "cell root\nwhen always do age+\n")),
                      changed(AGES, ("0 1 2", "1 0 2")), changed(AGES, ("0 1 2", "0 3 2")),
                      Rulebook(book.fields(), ties=book.ties(), kinds=book.kinds()[::-1]),
                      Rulebook(book.fields(), ties=book.ties(), kinds=book.kinds()[:1])):
            self.assertTrue(tables_of(book) != tables_of(other) and not tables_of(book) == tables_of(other))
        two = changed(AGES, ("cell plain", "tie road\nwhen always do keep\ncell plain"))
        self.assertNotEqual(tables_of(two), tables_of(Rulebook(two.fields(), ties=two.ties()[::-1], kinds=two.kinds())))
        self.assertNotEqual(tables_of(book), mixture(book))
        self.assertNotEqual(mixture(book), mixture(book, book))
        other = changed(AGES, ("born 0", "born 1"))
        self.assertNotEqual(mixture(book, other), mixture(other, book))

    def test_tables_equal_nothing_else(self):
        tables = tables_of(Rulebook.read(AGES))
        for other in [*ANY_VALUES, Rulebook.read(AGES), repr(tables), tables.kinds()]:
            self.assertFalse(tables == other)
            self.assertTrue(tables != other)


class ErrorsTest(ErrorCase):
    TABLES = tables_of(Rulebook.read(AGES))

    def test_unknown_kinds(self):
        for wrong in [value for value in NO_NAMES if value != "plain"]:
            for call, more in ((self.TABLES.order, []), (self.TABLES.birth, []), (self.TABLES.place, [None]),
                               (self.TABLES.place, [("7",)])):
                self.check_error(UnknownKind, wrong, call, wrong, *more)
        tables = mixture(Rulebook.read(AGES))
        for wrong in ("plain", "plain.1", "plain.", ".0", "plain.0 "):
            self.check_error(UnknownKind, wrong, tables.order, wrong)

    def test_holdings(self):
        for wrong in NO_HOLDINGS:
            self.check_error(InvalidHolding, wrong, self.TABLES.place, "plain", wrong)

    def test_lead(self):
        for wrong in NO_NAMES:
            for more in (["plain", "root", 0], ["x", "root", 0], ["plain", "y", -1], [wrong, wrong, wrong]):
                self.check_error(UnknownTie, wrong, self.TABLES.lead, wrong, *more)
            if wrong != "plain":
                for more in (["root", 0], ["x", -1], [wrong, wrong]):
                    self.check_error(UnknownKind, wrong, self.TABLES.lead, "link", wrong, *more)
                for place in (0, -1, None, wrong):
                    self.check_error(UnknownKind, wrong, self.TABLES.lead, "link", "plain", wrong, place)
        for wrong in NO_PLACES:
            self.check_error(InvalidCount, wrong, self.TABLES.lead, "link", "plain", "root", wrong)
        self.check_error(UnknownTie, "plain", self.TABLES.lead, "plain", "plain", "plain", 0)
        self.check_error(UnknownKind, "link", self.TABLES.lead, "link", "link", "plain", 0)

    def test_mixtures(self):
        book = Rulebook.read(AGES)
        others = [changed(AGES, ("age 0 1 2", "age 0 1 2 3")), changed(AGES, ("age 0 1 2", "age 1 0 2")),
                  changed(AGES, ("field age", "field ago"), ("age=", "ago="), ("age+", "ago+")),
                  changed(AGES, ("tie link", "field via a b\ntie link"), ("born 0", "born 0 a")),
                  changed(AGES, ("link", "road")),
                  changed(AGES, ("cell plain", "tie road\nwhen always do keep\ncell plain")),
                  changed(AGES, ("root", "rot")), changed(AGES, ("cell root\nborn 0\n", "")),
                  changed(AGES, ("born 0\n", "born 0\ncell more\n")),
                  Rulebook(book.fields(), ties=book.ties(), kinds=book.kinds()[::-1])]
        two = changed(AGES, ("cell plain", "tie road\nwhen always do keep\ncell plain"))
        for given in ([], [book] * 4, [book] * 5, *[[book, other] for other in others],
                      *[[other, book] for other in others], *[[book, book, other] for other in others],
                      *[[book, other, book] for other in others],
                      [two, Rulebook(two.fields(), ties=two.ties()[::-1], kinds=two.kinds())]):
            with self.assertRaises(BooksDiffer):
                mixture(*given)

    def test_mixtures_of_rulebooks_that_do_not_settle(self):
        echo = changed(AGES, ("when age=2 do drop\n", ""))
        self.assertEqual(repr(mixture(echo, Rulebook.read(AGES))), "Tables(4 kinds, 1 ties, 4 places)")


if __name__ == "__main__":
    unittest.main()
