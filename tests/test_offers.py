"""Tests of bestheard.rulebooks: orders, births, offers, and which holding is the best."""

import inspect
import unittest

from bestheard.errors import InvalidHolding, UnknownKind, UnknownTie
from bestheard.rulebooks import Rulebook
from samples import AGES, ANY_VALUES, ROADS, Maker, better, made_anew

NO_HOLDINGS = [value for value in ANY_VALUES if value is not None and value != ("0",)]
NO_HOLDINGS += [["0"], ("3",), ("0", "0"), (0,), (None,), (["0"],), ("",), "0", 0, ("+",), (("0",),)]
NO_NAMES = [*ANY_VALUES, "plains", "plain.0", "link ", ["plain"], ("link",), 10 ** 29]


class OrdersTest(unittest.TestCase):
    def order(self, keys):
        lines = ["field far 0 1 2", "field via b a", "tie t", "when always do keep", " ".join(["cell k", *keys])]
        book = Rulebook.read("".join(line + "\n" for line in lines))
        found = book.order("k")
        self.assertIsNone(found[-1])
        return " ".join("".join(value) for value in found[:-1])

    def test_keys_and_directions(self):
        self.assertEqual(self.order([]), "0b 0a 1b 1a 2b 2a")
        self.assertEqual(self.order(["far+"]), "0b 0a 1b 1a 2b 2a")
        self.assertEqual(self.order(["far-"]), "2b 2a 1b 1a 0b 0a")
        self.assertEqual(self.order(["via+"]), "0b 1b 2b 0a 1a 2a")
        self.assertEqual(self.order(["via-"]), "0a 1a 2a 0b 1b 2b")
        self.assertEqual(self.order(["far+", "via-"]), "0a 0b 1a 1b 2a 2b")
        self.assertEqual(self.order(["far-", "via-"]), "2a 2b 1a 1b 0a 0b")
        self.assertEqual(self.order(["via-", "far-"]), "2a 1a 0a 2b 1b 0b")
        self.assertEqual(self.order(["via+", "far-"]), "2b 1b 0b 2a 1a 0a")

    def test_the_birth_does_not_change_the_order(self):
        book = Rulebook.read(ROADS)
        self.assertEqual(book.order("fort"), [*book.all_values(), None])
        self.assertEqual([book.birth("town"), book.birth("port"), book.birth("fort")], [None, None, ("1", "b")])
        self.assertEqual([Rulebook.read(AGES).birth(kind) for kind in ("plain", "root")], [None, ("0",)])

    def test_made_ones(self):
        for seed in range(60):
            book = Maker(seed).book()
            for name, keys, _, birth in book.kinds():
                order = book.order(name)
                self.assertEqual(len(order), len(book.all_values()) + 1)
                for place, one in enumerate(order[:-1]):
                    for other in order[place + 1:-1]:
                        self.assertTrue(better(book.fields(), keys, one, other))
                self.assertEqual(book.birth(name), birth)

    def test_unknown_kinds(self):
        book = Rulebook.read(AGES)
        for kind in [value for value in NO_NAMES if value != "plain"]:
            for method in (book.order, book.birth):
                with self.assertRaises(UnknownKind) as caught:
                    method(kind)
                self.assertEqual(caught.exception.name, kind)


class OffersTest(unittest.TestCase):
    def test_without_a_taking(self):
        book = Rulebook.read(AGES)
        for kind in ("plain", "root"):
            self.assertEqual([book.offer("link", kind, holding) for holding in (("0",), ("1",), ("2",), None)],
                             [("1",), ("2",), None, None])

    def test_with_a_taking(self):
        book = Rulebook.read(ROADS)
        self.assertEqual(book.offer("road", "town", ("0", "a")), ("1", "a"))
        self.assertEqual(book.offer("road", "port", ("0", "a")), ("2", "a"))
        self.assertEqual(book.offer("road", "port", ("0", "b")), ("1", "b"))
        self.assertEqual(book.offer("road", "port", ("1", "b")), None)
        self.assertEqual(book.offer("road", "fort", ("1", "a")), ("2", "b"))
        # The taking gets nothing and makes nothing of it, although it has a case that always holds.
        self.assertEqual(book.offer("road", "fort", ("2", "a")), None)
        self.assertEqual(book.offer("path", "fort", None), None)
        # No case of the tie holds.
        self.assertEqual(book.offer("path", "fort", ("0", "b")), None)

    def test_a_call_does_the_same(self):
        book = Rulebook.read(ROADS)
        for tie in book.tie_names():
            for kind in book.kind_names():
                for holding in book.order(kind):
                    self.assertEqual(book(tie, kind, holding), book.offer(tie, kind, holding))
        self.assertEqual(book(holding=("0", "a"), kind="town", tie="road"), ("1", "a"))
        self.assertEqual(book.offer(holding=("0", "a"), kind="town", tie="road"), ("1", "a"))

    def test_made_ones(self):
        for seed in range(60):
            book = Maker(seed).book()
            for tie, program in book.ties():
                for kind, _, taking, _ in book.kinds():
                    for holding in [*book.all_values(), None]:
                        found = made_anew(book.fields(), program, holding)
                        if taking is not None:
                            found = made_anew(book.fields(), taking, found)
                        self.assertEqual(book.offer(tie, kind, holding), found)

    def test_errors_in_their_order(self):
        book = Rulebook.read(AGES)
        for call in (book.offer, book):
            for wrong in NO_NAMES:
                for kind in ("plain", wrong):
                    for holding in (None, ("7",)):
                        with self.assertRaises(UnknownTie) as caught:
                            call(wrong, kind, holding)
                        self.assertEqual(caught.exception.name, wrong)
                if wrong != "plain":
                    for holding in (None, ("7",)):
                        with self.assertRaises(UnknownKind) as caught:
                            call("link", wrong, holding)
                        self.assertEqual(caught.exception.name, wrong)
            for wrong in NO_HOLDINGS:
                with self.assertRaises(InvalidHolding) as caught:
                    call("link", "plain", wrong)
                self.assertEqual(caught.exception.given, wrong)
                self.assertIs(caught.exception.given.__class__, wrong.__class__)

    def test_kinds_are_no_ties(self):
        book = Rulebook.read(AGES)
        with self.assertRaises(UnknownTie):
            book.offer("plain", "plain", None)
        with self.assertRaises(UnknownKind):
            book.offer("link", "link", None)


class BestTest(unittest.TestCase):
    def test_the_best_of_the_birth_and_the_offers(self):
        book = Rulebook.read(AGES)
        self.assertEqual([book.best("plain"), book.best("root")], [None, ("0",)])
        self.assertEqual(book.best("plain", None), None)
        self.assertEqual(book.best("plain", ("2",), None, ("1",), ("2",)), ("1",))
        self.assertEqual(book.best("root", ("2",), None, ("1",)), ("0",))
        book = Rulebook.read(ROADS)
        self.assertEqual(book.best("fort", ("1", "b"), ("2", "a")), ("1", "b"))
        self.assertEqual(book.best("fort", ("2", "a"), ("1", "a"), None), ("1", "a"))
        self.assertEqual(book.best("port", ("1", "a"), ("2", "b"), ("1", "b")), ("2", "b"))

    def test_many_offers(self):
        book = Rulebook.read(AGES)
        self.assertEqual(book.best("plain", *[None] * 299, ("2",)), ("2",))
        self.assertEqual(str(inspect.signature(book.best)), "(kind, *offers)")

    def test_is_better(self):
        book = Rulebook.read(ROADS)
        for kind in book.kind_names():
            order = book.order(kind)
            for place, one in enumerate(order):
                for other_place, other in enumerate(order):
                    self.assertIs(book.is_better(kind, one, other), place < other_place)
                    self.assertEqual(book.best(kind, one, other),
                                     order[min(place, other_place, order.index(book.birth(kind)))])
        self.assertIs(book.is_better(other=None, one=("0", "a"), kind="fort"), True)

    def test_errors_of_best_in_their_order(self):
        book = Rulebook.read(AGES)
        for wrong in [value for value in NO_NAMES if value != "plain"]:
            for offers in ((), (("7",),), (None, ("0",))):
                with self.assertRaises(UnknownKind) as caught:
                    book.best(wrong, *offers)
                self.assertEqual(caught.exception.name, wrong)
        for wrong in NO_HOLDINGS:
            for offers in ((wrong,), (("0",), wrong), (None, wrong, ("7",)), (wrong, ("7",), "7")):
                with self.assertRaises(InvalidHolding) as caught:
                    book.best("root", *offers)
                self.assertEqual(caught.exception.given, wrong)

    def test_errors_of_is_better_in_their_order(self):
        book = Rulebook.read(AGES)
        for wrong in [value for value in NO_NAMES if value != "plain"]:
            with self.assertRaises(UnknownKind) as caught:
                book.is_better(wrong, ("7",), ("8",))
            self.assertEqual(caught.exception.name, wrong)
        for wrong in NO_HOLDINGS:
            for one, other in ((wrong, ("0",)), (("0",), wrong), (wrong, ("8",)), (None, wrong), (wrong, wrong)):
                with self.assertRaises(InvalidHolding) as caught:
                    book.is_better("plain", one, other)
                self.assertEqual(caught.exception.given, wrong)

    def test_lists_in_errors_are_copies(self):
        book = Rulebook.read(AGES)
        wrong = ["0", ["a"]]
        with self.assertRaises(InvalidHolding) as caught:
            book.best("plain", wrong)
        wrong[1].append("b")
        self.assertEqual(caught.exception.given, ["0", ["a"]])


if __name__ == "__main__":
    unittest.main()
