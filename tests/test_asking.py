"""Tests of bestheard.asking: what can stand, agree, harm, sway and stay hidden, against what small networks show."""

import inspect
import itertools
import unittest

from anew import (all_none, next_anew, next_both_anew, next_with_more_anew, pairs_anew, rounds_anew, stands_anew,
                  uneven_anew)
from bestheard.asking import compare, harm, hidden_way, row_to, standing, sway
from bestheard.certificates import Agree, Firm, Harmed, Harmless, Hidden, Open, Part, Swayed
from bestheard.deciding import settles, stand_of
from bestheard.errors import BooksDiffer, InvalidHolding, UnknownField, UnknownKind, UnknownTie, Unsettled
from bestheard.networks import Network
from bestheard.rulebooks import Rulebook
from bestheard.tables import mixture, tables_of
from bestheard.words import cell_names
from samples import AGES, ANY_VALUES, DEEP, ECHO, LEVELS, ROADS, WIDE, ErrorCase, Maker

# A tie more harms only if another one is there already.
RINGS = ("field lv 0 1 2 3\nfield v a b c\ntie t\nwhen lv=3 do drop\nwhen v=c do drop\nwhen always do lv+\n"
         "cell k v+\ncell r\nborn 0 a\ncell s\nborn 0 b\n")
# Roots say a level and a letter, and hear nothing; what plain cells hear is a level higher.
SHADES = ("field lv 0 1 2\nfield v a b\ntie link\nwhen lv<2 do lv+\ntie loud\nwhen lv<2 do lv+, v:a\n"
          "cell plain lv+\ncell root v+\nwhen always do drop\nborn 0 a\n")


def book_of(text, *pairs):
    """Return the rulebook of a text in which some words are put in the place of others."""
    for old, new in pairs:
        assert old in text, old
        text = text.replace(old, new)
    return Rulebook.read(text)


def tables(text, *pairs):
    return tables_of(book_of(text, *pairs))


def made_books(seed, many):
    """Return rulebooks with the same fields and the same names of ties and kinds, of few values."""
    maker = Maker(seed)
    fields = [[("age", ("0", "1", "2"))], [("age", ("0", "1")), ("far", ("a", "b"))], [("far", ("a", "b"))]][seed % 3]
    ties = ["link", "road"][:maker.number(1, 2)]
    kinds = ["plain", "root"][:maker.number(1, 2)]
    return [Rulebook(fields, ties=[(name, maker.program(fields)) for name in ties],
                     kinds=[maker.kind(name, fields) for name in kinds]) for _ in range(many)]


def settled_tables(many):
    """Return the tables of made rulebooks and mixtures that settle, each with a maker of networks for it."""
    found = []
    seed = 0
    while len(found) < many:
        books = made_books(seed, 1 + seed % 7 // 5)
        made = mixture(*books) if len(books) > 1 else tables_of(books[0])
        if settles(made):
            found.append((made, Maker(seed)))
        seed += 1
    return found


def leveled_tables(many):
    """Return such tables of rulebooks by which all that is offered is a level higher; with each a maker."""
    found = []
    seed = 0
    while len(found) < many:
        maker = Maker(seed)
        levels, letters = maker.choice([("012", "ab"), ("0123", "abc")])
        fields = [("lv", tuple(levels)), ("v", tuple(letters))]
        program = [((("lv", "=", levels[-1]),), None)]
        for _ in range(maker.number(1, 3)):
            tests = (("lv", "=", maker.choice(levels[:-1])), ("v", maker.choice("=!"), maker.choice(letters)))
            program.append((tests[maker.number(0, 1):],
                            maker.choice([None, (("v", maker.choice(letters)), ("lv", "+"))])))
        program.append(((), (("lv", "+"),)))
        keys = maker.choice([(("v", "+"),), (("v", "-"),), (("lv", "+"), ("v", "-"))])
        kinds = [("k", keys, None, None), ("r", (), None, ("0", "a")), ("s", (), None, ("0", "b"))]
        made = tables_of(Rulebook(fields, ties=[("t", tuple(program))], kinds=kinds))
        if settles(made):
            found.append((made, maker))
        seed += 1
    return found


def small_networks(made, maker, many=12):
    for _ in range(many):
        yield maker.network(made.kinds(), made.ties(), cells=4, many=7)


def same_one(one, other):
    """Tell whether two certificates are equal in all that they keep."""
    names = [name for name in vars(one.__class__) if name in ("rounds web first second seen spot extra kind lies liars "
                                                               "standing pairs state cells ties").split()]
    return one.__class__ is other.__class__ and all(getattr(one, name)() == getattr(other, name)() for name in names)


class StandingTest(unittest.TestCase):
    def test_the_example(self):
        made = tables(AGES)
        self.assertEqual(standing(made, "plain"), [("1",), ("2",), None])
        self.assertEqual(standing(kind="root", tables=made), [("0",)])
        network, cell = row_to(made, "plain", ("2",))
        self.assertEqual([network.text(), cell],
                         ["cell a root\ncell b plain\ncell c plain\ntie link a b\ntie link b c\n", "c"])

    def test_a_birth_that_is_better_than_what_is_heard(self):
        made = tables(AGES, ("cell plain age+\n", "cell plain age+\nborn 1\n"))
        self.assertEqual(standing(made, "plain"), [("1",)])
        made = tables(AGES, ("cell plain age+\n", "cell plain age+\nborn 2\n"))
        self.assertEqual(standing(made, "plain"), [("1",), ("2",)])

    def check_row(self, made, kind, holding, fewest):
        found = row_to(made, kind, holding)
        self.assertIsInstance(found, tuple)
        network, cell = found
        self.assertEqual([network.cells(), cell], [cell_names(fewest), cell_names(fewest)[-1]])
        self.assertEqual([tie[1:] for tie in network.ties()], list(zip(network.cells(), network.cells()[1:])))
        self.assertEqual([network[cell], stand_of(made, network)[cell]], [kind, holding])

    def check(self, made):
        """Check against all rows, by what can stand at the end of one with so many cells."""
        fewest = {}
        ends = {(kind, made.birth(kind)) for kind in made.kinds()}
        many = 1
        while not ends <= set(fewest):
            for end in ends:
                fewest.setdefault(end, many)
            ends = {(target, min(made.lead(tie, kind, target, place), made.birth(target)))
                    for kind, place in ends for tie in made.ties() for target in made.kinds()}
            many += 1
        for kind in made.kinds():
            places = [place for place in range(made.size) if (kind, place) in fewest]
            self.assertEqual(standing(made, kind), [made.order(kind)[place] for place in places])
            for place, holding in enumerate(made.order(kind)):
                if place in places:
                    self.check_row(made, kind, holding, fewest[(kind, place)])
                else:
                    self.assertIsNone(row_to(made, kind, holding))

    def test_rows_with_the_fewest_cells(self):
        for text in (AGES, LEVELS, SHADES, WIDE, DEEP):
            self.check(tables(text))
        for made, _ in settled_tables(60):
            self.check(made)

    def test_24_values(self):
        deep = tables(DEEP)
        self.assertEqual(standing(deep, "plain"), deep.order("plain")[1:])
        self.assertEqual(standing(deep, "picky"), [holding for holding in deep.order("picky")
                                                   if holding is None or holding[1] in "23"])
        self.assertEqual(standing(deep, "root"), [("0", "0")])
        self.check_row(deep, "plain", ("5", "3"), 24)
        self.check_row(deep, "picky", ("0", "2"), 13)

    def test_nothing_else_stands_in_small_networks(self):
        for made, maker in settled_tables(40):
            can = {kind: standing(made, kind) for kind in made.kinds()}
            for net in small_networks(made, maker):
                stand = stand_of(made, net)
                self.assertTrue(all(stand[cell] in can[net[cell]] for cell in net.cells()))

    def test_mixtures(self):
        book = book_of(AGES)
        self.check(mixture(book, book_of(AGES, ("born 0", "born 1")), book))
        made = mixture(book, book_of(AGES, ("when age=2", "when age>0")))
        self.assertEqual([standing(made, kind) for kind in made.kinds()],
                         [[("1",), ("2",), None], [("0",)], [("1",), None], [("0",)]])


class StandingErrorsTest(ErrorCase):
    def test_errors_in_their_order(self):
        for text in (AGES, ECHO):
            made = tables(text)
            for wrong in [*ANY_VALUES, "plain.0", "plai", ["plain"], ("plain",)]:
                self.check_error(UnknownKind, wrong, standing, made, wrong)
                for holding in (None, ("7",), wrong):
                    self.check_error(UnknownKind, wrong, row_to, made, wrong, holding)
            for wrong in [value for value in ANY_VALUES if value is not None and value != ("0",)] + [["0"], ("7",)]:
                self.check_error(InvalidHolding, wrong, row_to, made, "plain", wrong)
        for call in (lambda: standing(made, "plain"), lambda: row_to(made, "plain", None),
                     lambda: row_to(made, "plain", ("0",)), lambda: standing(mixture(book_of(ECHO)), "plain.0")):
            with self.assertRaises(Unsettled):
                call()


class CompareTest(unittest.TestCase):
    def check(self, one, other, seen=None):
        """Check what is told of two rulebooks, and return whether they agree."""
        found = compare(one, other, seen=seen)
        names = [name for name, _ in one.fields()]
        positions = None if seen is None else [names.index(name) for name in seen]
        self.assertEqual(found.seen(), positions)
        self.assertTrue(found.tables == tables_of(one) and found.others == tables_of(other))
        self.assertIs(found.holds(), True)
        self.assertIs(found.__class__, Agree if found else Part)
        if not found:
            web = found.web()
            stands = stand_of(tables_of(one), web), stand_of(tables_of(other), web)
            self.assertEqual((found.first(), found.second()), stands)
            self.assertTrue(self.differ(stands[0][found.spot()], stands[1][found.spot()], positions))
        return bool(found)

    @staticmethod
    def differ(one, other, positions):
        if one is None or other is None:
            return one is not other
        return any(one[at] != other[at] for at in (range(len(one)) if positions is None else positions))

    def test_equal_rulebooks(self):
        for text in (AGES, LEVELS, SHADES, WIDE):
            self.assertTrue(self.check(book_of(text), book_of(text)))
        same = book_of(SHADES, ("cell plain lv+", "cell plain lv+ v+"), ("when lv<2 do lv+\n", "when lv!2 do lv+\n"))
        for seen in (None, [], ["v"], ["lv", "v"]):
            self.assertTrue(self.check(book_of(SHADES), same, seen))

    def check_seen(self, one, other, agree):
        """Check by which fields two rulebooks agree, told by a dict from the seen fields."""
        for names, expected in agree.items():
            seen = None if names is None else names.split()
            self.assertIs(self.check(one, other, seen), expected, names)
            self.assertIs(self.check(other, one, seen), expected, names)

    def test_another_program(self):
        self.check_seen(book_of(SHADES), book_of(SHADES, ("v:a", "v:b")),
                        {"": True, "lv": True, "lv lv": True, "v": False, "v lv": False, "v v": False, None: False})
        self.check_seen(book_of(AGES), book_of(AGES, ("when age=2", "when age>0")), {"": False, "age": False, None: False})
        # Level 2 makes nothing in both.
        self.check_seen(book_of(SHADES), book_of(SHADES, ("loud\nwhen lv<2", "loud\nwhen lv=2 do drop\nwhen lv<2")),
                        {"": True, "v": True, "lv v": True, None: True})

    def test_another_taking(self):
        one = book_of(SHADES)
        self.check_seen(one, book_of(SHADES, ("cell plain lv+\n", "cell plain lv+\nwhen always do keep\n")),
                        {"": True, "v": True, "lv": True, None: True})
        self.check_seen(one, book_of(SHADES, ("cell plain lv+\n", "cell plain lv+\nwhen always do v:b\n")),
                        {"": True, "v": False, "lv": True, "lv v": False, None: False})
        self.check_seen(one, book_of(SHADES, ("cell plain lv+\n", "cell plain lv+\nwhen lv<2 do keep\n")),
                        {"": False, "v": False, "lv": False, None: False})
        # Nothing of level 0 is ever offered.
        self.check_seen(one, book_of(SHADES, ("root v+\nwhen always do drop", "root v+\nwhen lv>0 do drop\nwhen v=a do v:b")),
                        {"": True, "v": True, "lv": True, None: True})
        self.check_seen(one, book_of(SHADES, ("cell root v+\nwhen always do drop", "cell root v+\nwhen lv=0 do drop")),
                        {"": True, "v": True, "lv": True, None: True})

    def test_another_key(self):
        pair = ("born 0 a", "born 0 b")
        one = book_of(SHADES, pair)
        self.check_seen(one, book_of(SHADES, pair, ("plain lv+", "plain lv+ v-")),
                        {"": True, "lv": True, "v": False, "v lv v": False, None: False})
        self.check_seen(one, book_of(SHADES, pair, ("plain lv+", "plain lv+ v+")), {"": True, "v": True, None: True})
        # If everything that is said has the letter a, no key for letters counts.
        quiet = ("tie loud\nwhen lv<2 do lv+, v:a", "tie loud\nwhen lv<2 do lv+")
        self.check_seen(book_of(SHADES, quiet), book_of(SHADES, quiet, ("plain lv+", "plain lv+ v-")),
                        {"": True, "lv": True, "v": True, None: True})

    def test_another_birth(self):
        one = book_of(SHADES)
        self.check_seen(one, book_of(SHADES, ("born 0 a", "born 0 b")),
                        {"": True, "lv": True, "v": False, "lv v": False, None: False})
        self.check_seen(one, book_of(SHADES, ("born 0 a", "born 1 a")),
                        {"": False, "lv": False, "v": False, None: False})
        self.check_seen(one, book_of(SHADES, ("born 0 a\n", "")), {"": False, "v": False, None: False})
        self.check_seen(book_of(SHADES, ("born 0 a", "born 2 a")), book_of(SHADES, ("born 0 a", "born 2 b")),
                        {"": True, "lv lv": True, "v": False, None: False})

    def test_seen_may_be_a_tuple(self):
        found = compare(book_of(SHADES), book_of(SHADES), seen=("v", "lv", "v"))
        self.assertEqual([found.seen(), found.holds()], [[1, 0, 1], True])
        self.assertEqual(str(inspect.signature(compare)), "(one, other, *, seen=None)")

    def test_24_values(self):
        one = book_of(DEEP)
        self.check_seen(one, book_of(DEEP, ("born 0 0", "born 0 1")), {"": False, "b": False, "a": False, None: False})
        self.check_seen(one, book_of(DEEP, ("picky b+ a+\nwhen b<2", "picky b+ a+\nwhen b<1")),
                        {"": False, "b": False, "a": False, None: False})
        self.check_seen(one, book_of(DEEP, ("when b<3 do b+, a:0", "when b<3 do b+")),
                        {"": False, "b": False, "a": False, None: False})
        self.check_seen(one, book_of(DEEP, ("when b<3 do b+, a:0", "when b!3 do a:0, b+")), {"": True, "b": True, None: True})
        self.check_seen(book_of(WIDE), book_of(WIDE, ("plain b+ a+", "plain a+")), {"": True, "b": True, None: True})

    def test_made_ones_by_the_limits_told_anew(self):
        agree = []
        for seed in range(300):
            books = made_books(seed, 2)
            if seed % 2:
                # Only one part of the other rulebook is another one.
                kinds, ties = books[0].kinds(), books[0].ties()
                kinds[0], ties[0] = (books[1].kinds()[0], ties[0]) if seed % 4 == 1 else (kinds[0], books[1].ties()[0])
                books[1] = Rulebook(books[0].fields(), ties=ties, kinds=kinds)
            made = [tables_of(book) for book in books]
            if not settles(made[0]) or not settles(made[1]):
                continue
            rounds = rounds_anew((all_none(made[0]), all_none(made[1])), lambda both: next_both_anew(*made, both))
            for seen in (None, [], [books[0].fields()[0][0]]):
                positions = None if seen is None else [0][:len(seen)]
                apart = [1 for kind, p, q in pairs_anew(made[0], *rounds[-1])
                         if self.differ(made[0].order(kind)[p], made[1].order(kind)[q], positions)]
                agree.append(self.check(*books, seen))
                self.assertIs(agree[-1], not apart)
                if agree[-1]:
                    self.check_small_networks(books, made, positions, Maker(seed))
        self.assertGreater(agree.count(True), 30)
        self.assertGreater(agree.count(False), 30)

    def check_small_networks(self, books, made, positions, maker):
        for net in small_networks(made[0], maker, 4):
            stands = [stand_of(tables, net) for tables in made]
            self.assertFalse(any(self.differ(stands[0][cell], stands[1][cell], positions) for cell in net.cells()))


class CompareErrorsTest(ErrorCase):
    def test_books_that_differ_are_first(self):
        one = book_of(AGES)
        for pairs in ([("age 0 1 2", "age 0 1 2 3")], [("age 0 1 2", "age 1 0 2")], [("link", "road")],
                      [("root", "rot")], [("cell root\nborn 0\n", "")],
                      [("cell plain", "tie road\nwhen always do drop\ncell plain")],
                      [("cell plain age+\ncell root\nborn 0\n", "cell root\nborn 0\ncell plain age+\n")]):
            for more in ([], [("when age=2 do drop\n", "")]):
                other = book_of(AGES, *pairs, *more)
                for seen in (None, ["age"], ["strange"], []):
                    for books in ((one, other), (other, one)):
                        with self.assertRaises(BooksDiffer):
                            compare(*books, seen=seen)

    def test_unknown_fields_and_then_unsettled(self):
        good, bad = book_of(AGES), book_of(AGES, ("when age=2 do drop\n", ""))
        for books in ((good, good), (good, bad), (bad, good), (bad, bad)):
            for wrong in [value for value in ANY_VALUES if value != "age"] + ["link", "plain", 0, ["age"]]:
                for seen in ([wrong], [wrong, "x"], ["age", "age", wrong, "y"]):
                    self.check_error(UnknownField, wrong, lambda: compare(*books, seen=seen))
            if books != (good, good):
                for seen in (None, [], ["age"]):
                    with self.assertRaises(Unsettled):
                        compare(*books, seen=seen)


class HarmTest(unittest.TestCase):
    def check(self, made):
        """Check what is told, and return whether there is no harm."""
        found = harm(made)
        self.assertTrue(found.tables == made)
        self.assertIs(found.holds(), True)
        self.assertIs(found.__class__, Harmless if found else Harmed)
        if not found:
            web, extra, spot = found.web(), found.extra(), found.spot()
            stand = stand_of(made, web)
            self.assertEqual(found.first(), stand)
            web.cut(*extra)
            self.assertEqual(found.second(), stand_of(made, web))
            order = made.order(web[spot])
            self.assertGreater(order.index(stand[spot]), order.index(found.second()[spot]))
        return bool(found)

    def test_such_that_harm_and_such_that_do_not(self):
        for text in (AGES, SHADES, WIDE):
            self.assertTrue(self.check(tables(text)))
        # A picky cell hears nothing any more if another one holds something better that it does not take.
        for text in (LEVELS, DEEP, RINGS):
            self.assertFalse(self.check(tables(text)))
        # If the level counts first, and both letters go equally far, more ties bring lower levels.
        equal = ("when lv=1 and v=a do drop\n", "")
        self.assertTrue(self.check(tables(LEVELS, equal, ("plain v+", "plain lv+"))))
        self.assertFalse(self.check(tables(LEVELS, equal)))
        self.assertTrue(self.check(mixture(book_of(AGES), book_of(AGES))))
        self.assertFalse(self.check(mixture(book_of(LEVELS, equal, ("plain v+", "plain lv+")), book_of(LEVELS))))

    def test_by_the_limits_told_anew_and_by_small_networks(self):
        answers = []
        for made, maker in settled_tables(60) + leveled_tables(60):
            answers.append(self.check(made))
            if made.size < 7:
                first = (all_none(made), all_none(made))
                last = rounds_anew(first, lambda both: next_with_more_anew(made, both))[-1]
                self.assertIs(answers[-1], not any(p > q for _, p, q in pairs_anew(made, *last)))
            if answers[-1]:
                self.check_small_networks(made, maker)
        self.assertGreater(answers.count(False), 5)
        self.assertGreater(answers.count(True), 50)

    def check_small_networks(self, made, maker):
        for net in small_networks(made, maker, 4):
            stand = stand_of(made, net)
            for extra in net.ties():
                less = net.clone()
                less.cut(*extra)
                other = stand_of(made, less)
                for cell in net.cells():
                    order = made.order(net[cell])
                    self.assertLessEqual(order.index(stand[cell]), order.index(other[cell]))

    def test_unsettled(self):
        for made in (tables(ECHO), tables(ROADS), mixture(book_of(AGES), book_of(AGES, ("when age=2 do drop\n", "")))):
            for call in (harm, hidden_way):
                with self.assertRaises(Unsettled):
                    call(made)


class SwayTest(ErrorCase):
    def check(self, made, kind, *lies):
        """Check what is told, and return whether the kind is firm."""
        found = sway(made, kind, *lies)
        self.assertTrue(found.tables == made)
        self.assertEqual([found.kind(), found.lies()], [kind, list(lies)])
        self.assertIs(found.holds(), True)
        self.assertIs(found.__class__, Firm if found else Swayed)
        if not found:
            web, liars, states = found.web(), found.liars(), [found.first(), found.second()]
            self.assertTrue(all(tie in lies for tie, source, _ in web.ties() if source in liars))
            self.assertEqual(web[found.spot()], kind)
            self.assertNotIn(found.spot(), liars)
            self.assertNotEqual(states[0][found.spot()], states[1][found.spot()])
            if len(web) <= 3:
                for state in states:
                    self.assertIn(state, stands_anew(made, web, {cell: state[cell] for cell in liars}))
        return bool(found)

    def test_no_lies_one_and_all(self):
        made = tables(SHADES)
        for kind in ("plain", "root"):
            self.assertTrue(self.check(made, kind))
        for lies in (["link"], ["loud"], ["link", "loud"], ["loud", "link"], ["link", "link"], ["loud", "link", "loud"]):
            self.assertFalse(self.check(made, "plain", *lies))
            self.assertTrue(self.check(made, "root", *lies))
        # Root cells prefer a; what is said aloud to them is worse than their birth, what else is said is not.
        made = tables(SHADES, ("born 0 a", "born 2 b"), ("cell root v+\n", "cell root v+\nwhen v=b do keep\n"))
        self.assertEqual([self.check(made, "root", *lies) for lies in ([], ["loud"], ["link"], ["link", "loud"])],
                         [True, True, False, False])

    def test_kinds_that_hear_others_are_swayed_too(self):
        text = ("field v a b c\ntie far\nwhen v=a do v:b\ntie near\nwhen v=b do v:c\n"
                "cell end\nwhen v=c do keep\ncell mid\nwhen v=b do keep\n")
        made = tables(text)
        self.assertEqual([self.check(made, kind, tie) for kind in ("end", "mid") for tie in ("far", "near")],
                         [False, False, False, True])
        found = sway(made, "end", "far")
        self.assertEqual([len(found.web()), len(found.liars())], [3, 1])

    def test_rulebooks_that_do_not_settle(self):
        echo = tables(ECHO)
        for lies in ([], ["link"]):
            self.assertFalse(self.check(echo, "plain", *lies))
        self.assertEqual(sway(echo, "plain").liars(), [])
        deaf = tables(ECHO + "cell deaf\nwhen always do drop\n")
        for lies in ([], ["link"]):
            self.assertTrue(self.check(deaf, "deaf", *lies))
            self.assertFalse(self.check(deaf, "plain", *lies))

    def test_24_values_and_mixtures(self):
        made = tables(WIDE)
        for lies in ([], ["link"], ["road"], ["road", "link"]):
            self.assertIs(self.check(made, "plain", *lies), not lies)
        for books in ([book_of(AGES)] * 2, [book_of(AGES), book_of(ECHO.replace("0 1", "0 1 2") + "cell root\n")]):
            made = mixture(*books)
            for kind in made.kinds():
                for lies in ([], ["link"]):
                    self.check(made, kind, *lies)

    def test_made_ones_by_the_limits_told_anew(self):
        answers = []
        for seed in range(100):
            books = made_books(seed, 1 + seed % 9 // 8)
            made = mixture(*books) if len(books) > 1 else tables_of(books[0])
            for many in range(len(made.ties()) + 1):
                for lies in itertools.combinations(made.ties(), many):
                    last = rounds_anew(all_none(made), lambda limits: next_anew(made, limits, lies))[-1]
                    uneven = {kind for kind, _, _ in uneven_anew(made, last)}
                    for kind in made.kinds():
                        answers.append(self.check(made, kind, *lies))
                        self.assertIs(answers[-1], kind not in uneven)
        self.assertGreater(answers.count(False), 50)
        self.assertGreater(answers.count(True), 50)

    def test_what_is_firm_stays_in_small_networks(self):
        for made, maker in settled_tables(25):
            for lies in ([], made.ties()[:1]):
                firm = [kind for kind in made.kinds() if sway(made, kind, *lies)]
                for net in small_networks(made, maker, 3):
                    liars = [cell for cell in net.cells() if all(tie[0] in lies for tie in net.ties_from(cell))][:1]
                    states = [state for held in made.order(made.kinds()[0])
                              for state in stands_anew(made, net, {cell: held for cell in liars})]
                    for cell in net.cells():
                        if net[cell] in firm and cell not in liars:
                            self.assertEqual(len({state[cell] for state in states}), 1)

    def test_errors_in_their_order(self):
        for text in (AGES, ECHO):
            made = tables(text)
            for wrong in [*ANY_VALUES, "plain.0", ["plain"], ("plain",)]:
                for lies in ([], ["link"], ["strange"], [wrong]):
                    self.check_error(UnknownKind, wrong, sway, made, wrong, *lies)
            for wrong in [*ANY_VALUES, "plain", ["link"], ("link",), "link "]:
                for lies in ([wrong], ["link", wrong, "x"], ["link", "link", wrong]):
                    self.check_error(UnknownTie, wrong, sway, made, "plain", *lies)
        self.assertEqual(str(inspect.signature(sway)), "(tables, kind, *lies)")


class HiddenWayTest(unittest.TestCase):
    def check(self, made):
        """Check what is told, and return whether no way is hidden."""
        found = hidden_way(made)
        self.assertTrue(found.tables == made)
        self.assertIs(found.holds(), True)
        self.assertIs(found.__class__, Open if found else Hidden)
        if found:
            self.assertEqual({kind: [made.order(kind)[place] for place in places]
                              for kind, places in found.standing().items()},
                             {kind: standing(made, kind) for kind in made.kinds()})
        else:
            self.assertEqual(found.state(), stand_of(made, found.web()))
            order = made.order(found.web()[found.cells()[-1]])
            self.assertLess(self.brought(made, found.web(), found.cells()[0], found.ties()),
                            order.index(found.state()[found.cells()[-1]]))
        return bool(found)

    @staticmethod
    def brought(made, web, start, ties):
        place = made.birth(web[start])
        for tie, source, target in ties:
            place = made.lead(tie, web[source], web[target], place)
        return place

    def test_hidden_and_open(self):
        for text in (AGES, WIDE, SHADES):
            self.assertTrue(self.check(tables(text)))
        for text in (LEVELS, DEEP):
            self.assertFalse(self.check(tables(text)))
        equal = ("when lv=1 and v=a do drop\n", "")
        self.assertTrue(self.check(tables(LEVELS, equal, ("plain v+", "plain lv+"), ("cell good\nborn 0 a\n", ""))))
        self.assertFalse(self.check(tables(LEVELS, equal)))
        self.assertTrue(self.check(mixture(book_of(AGES), book_of(AGES))))
        self.assertFalse(self.check(mixture(book_of(LEVELS), book_of(LEVELS))))

    def test_by_small_networks(self):
        answers = []
        for made, maker in settled_tables(60) + leveled_tables(60):
            answers.append(self.check(made))
            if answers[-1]:
                self.check_small_networks(made, maker)
        self.assertGreater(answers.count(False), 5)
        self.assertGreater(answers.count(True), 50)

    def check_small_networks(self, made, maker):
        """Check that no way of up to four ties is hidden."""
        for net in small_networks(made, maker, 3):
            stand = stand_of(made, net)
            ways = [(cell, made.birth(net[cell])) for cell in net.cells()]
            for _ in range(4):
                ways = [(target, made.lead(tie, net[source], net[target], place)) for cell, place in dict.fromkeys(ways)
                        for tie, source, target in net.ties_from(cell)]
                for cell, place in ways:
                    self.assertGreaterEqual(place, made.place(net[cell], stand[cell]))

    def test_pairs_of_an_open(self):
        found = hidden_way(tables(AGES))
        self.assertEqual([found.standing(), {kind: sorted(row) for kind, row in found.pairs().items()}],
                         [{"plain": [1, 2, 3], "root": [0]},
                          {"plain": [(1, 1), (2, 1), (2, 2), (3, 1), (3, 2), (3, 3)], "root": [(0, 0), (1, 0), (2, 0)]}])


class AgainTest(unittest.TestCase):
    def test_equal_calls_whatever_is_done_to_the_answers(self):
        one, other = book_of(SHADES), book_of(SHADES, ("v:a", "v:b"))
        calls = [lambda: compare(one, other), lambda: compare(one, other, seen=["lv"]), lambda: harm(tables(LEVELS)),
                 lambda: harm(tables(AGES)), lambda: sway(tables(AGES), "plain", "link"), lambda: sway(tables(AGES), "root"),
                 lambda: hidden_way(tables(AGES)), lambda: hidden_way(tables(LEVELS))]
        for call in calls:
            first, second = call(), call()
            self.assertTrue(same_one(first, second))
            for name in ("rounds", "first", "second", "seen", "lies", "liars", "standing", "pairs", "cells", "ties"):
                if hasattr(first, name):
                    (getattr(first, name)() or []).clear()
            self.assertTrue(same_one(first, second))
            self.assertIs(first.holds(), True)
            self.assertTrue(same_one(call(), second))
        found = row_to(tables(AGES), "plain", ("2",))
        found[0].drop("a")
        standing(tables(AGES), "plain").clear()
        self.assertEqual(row_to(tables(AGES), "plain", ("2",))[0].cells(), ["a", "b", "c"])
        self.assertEqual(len(standing(tables(AGES), "plain")), 3)

    def test_the_arguments_stay(self):
        seen = ["lv", "v"]
        one, other = book_of(SHADES), book_of(SHADES, ("v:a", "v:b"))
        found = compare(one, other, seen=seen)
        seen.append("x")
        self.assertEqual([found.seen(), one.text(), other.text()], [[0, 1], SHADES, SHADES.replace("v:a", "v:b")])


if __name__ == "__main__":
    unittest.main()
