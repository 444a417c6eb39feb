"""Tests of bestheard.live: commands, steps, history, what changed, and the limit."""

import inspect
import unittest
from unittest import mock

from bestheard.deciding import stand_of
from bestheard.errors import (BestError, DuplicateCell, DuplicateTie, EmptyHistory, Full, InvalidCommand, InvalidLimit,
                              InvalidName, InvalidRulebook, Missing, MissingTie, UnknownCell, UnknownKind, UnknownTie,
                              Unsettled)
from bestheard.live import Live
from bestheard.networks import Network
from bestheard.rounds import is_stand
from bestheard.rulebooks import Rulebook
from bestheard.tables import tables_of
from bestheard.words import cell_names
from samples import AGES, ANY_VALUES, ECHO, LEVELS, SHORT, TEXT, UNSETTLED, ErrorCase, Maker

BOOK = Rulebook.read(AGES)
NO_NAMES = [value for value in ANY_VALUES if value not in ("a", "age")] + ["abcdefghi", "a1", "B"]
NO_LIMITS = [value for value in ANY_VALUES if not isinstance(value, int) or isinstance(value, bool)]
NO_LIMITS += [0, -1, 25, 10 ** 29, -10 ** 29, "24", (24,), [24]]


def live(text=TEXT, **more):
    return Live(BOOK, network=Network.read(text), **more)


def seen(net):
    """Return all that can be seen of a live network, copied."""
    return (net.book.text(), net.web().text(), dict(net.stand), list(net.changed), net.busy, net.limit, net.history(),
            len(net), repr(net))


class LiveCase(ErrorCase):
    def check_same_after(self, error, given, net, call, *arguments):
        """Check that a call raises this error, and that it changes nothing."""
        before = seen(net)
        self.check_error(error, given, call, *arguments)
        self.assertEqual(seen(net), before)
        self.assertIs(net.busy, False)

    def check_refused(self, error, given, net, command):
        """Check that a command is refused, alone and among right ones."""
        self.check_same_after(error, given, net, net.apply, command)
        if len(net) < net.limit - 1:
            self.check_same_after(error, given, net, net.apply, ("cell", "zz", "plain"), ("cell", "zy", "root"), command)
        self.check_same_after(error, given, net, net.apply, command, ("drop", "nocell"), 5)


class MadeTest(LiveCase):
    def test_with_and_without_a_network(self):
        empty = Live(BOOK)
        self.assertEqual(seen(empty), (AGES, "", {}, [], False, 24, (0, 0), 0, "Live(0 cells, 0 ties)"))
        net = Live(network=Network.read(TEXT), book=BOOK, limit=3)
        stand = {"a": ("0",), "b": ("1",), "c": ("2",)}
        self.assertEqual(seen(net), (AGES, TEXT, stand, [], False, 3, (0, 0), 3, "Live(3 cells, 2 ties)"))
        self.assertTrue(net.book == BOOK)
        self.assertEqual(Live(BOOK, network=None).web(), Network())
        self.assertEqual([Live.MOST, net.MOST], [24, 24])
        self.assertEqual(str(inspect.signature(Live)), "(book, *, network=None, limit=24)")

    def test_what_is_passed_stays(self):
        network = Network.read(TEXT)
        net = Live(BOOK, network=network)
        net.apply(("drop", "b"), ("rules", SHORT))
        self.assertEqual([network.text(), BOOK.text()], [TEXT, AGES])
        network.drop("a")
        self.assertEqual(net.web().cells(), ["a", "c"])

    def test_what_is_returned_is_new(self):
        net = live()
        net.apply(("drop", "c"), ("cell", "d", "root"))
        before = seen(net)
        net.stand["a"] = 5
        net.stand.clear()
        net.changed.append("x")
        net.web().drop("a")
        self.assertEqual(seen(net), before)

    def test_errors_in_their_order(self):
        bad = Rulebook.read(UNSETTLED)
        strange = Network.read("cell a other\ncell b far\ntie road a b\ntie path a b\n")
        for wrong in NO_LIMITS:
            for book in (BOOK, bad):
                self.check_error(InvalidLimit, wrong, lambda: Live(book, limit=wrong))
                self.check_error(InvalidLimit, wrong, lambda: Live(book, network=strange, limit=wrong))
        for limit in (1, 2):
            self.check_error(InvalidLimit, limit, lambda: Live(bad, network=Network.read(TEXT), limit=limit))
        many = Network(cells=[(name, "other") for name in cell_names(25)])
        for limit in (24, 25, 1):
            self.check_error(InvalidLimit, limit, lambda: Live(bad, network=many, limit=limit))
        self.check_error(InvalidLimit, 24, lambda: Live(bad, network=many))
        for network in (None, Network(), strange):
            with self.assertRaises(Unsettled):
                Live(bad, network=network)
        self.check_error(UnknownKind, "other", lambda: Live(BOOK, network=strange))
        strange.set_kind("a", "plain")
        self.check_error(UnknownKind, "far", lambda: Live(BOOK, network=strange))
        strange.set_kind("b", "plain.0")
        self.check_error(UnknownKind, "plain.0", lambda: Live(BOOK, network=strange))
        strange.set_kind("b", "plain")
        self.check_error(UnknownTie, "road", lambda: Live(BOOK, network=strange))
        strange.cut("road", "a", "b")
        self.check_error(UnknownTie, "path", lambda: Live(BOOK, network=strange))
        strange.add_tie("way", "b", "a")
        self.check_error(UnknownTie, "path", lambda: Live(BOOK, network=strange))

    def test_the_interface(self):
        for name in ("book stand changed busy limit set_limit apply undo redo history web value_of clone __contains__ "
                     "__len__ __eq__ __repr__ __init__ MOST").split():
            self.assertIn(name, vars(Live))
        for name in ("book", "stand", "changed", "busy", "limit"):
            self.assertIsInstance(vars(Live)[name], property)
        for name in ("book", "stand", "changed", "busy"):
            with self.assertRaises(AttributeError):
                setattr(live(), name, None)

    def test_asked(self):
        net = live()
        net.apply(("cell", "d", "plain"))
        self.assertEqual([net.value_of(name="a"), net.value_of("c"), net.value_of("d")], [("0",), ("2",), None])
        for name in "abcd":
            self.assertIs(name in net, True)
        for wrong in [value for value in ANY_VALUES if value != "a"] + ["x", "root", "link", ["a"], ("a",)]:
            self.assertIs(wrong in net, False)
            self.check_same_after(UnknownCell, wrong, net, net.value_of, wrong)


class CommandsTest(LiveCase):
    def test_cells(self):
        net = live("")
        self.assertIsNone(net.apply(("cell", "b", "plain")))
        net.apply(("cell", "a", "root"), ("cell", "cell", "plain"))
        self.assertEqual(net.web().text(), "cell b plain\ncell a root\ncell cell plain\n")
        net = live()
        for wrong in NO_NAMES:
            for kind in ("plain", "other", wrong):
                self.check_refused(InvalidName, wrong, net, ("cell", wrong, kind))
        for kind in ("plain", "other", None, ["x"]):
            self.check_refused(DuplicateCell, "b", net, ("cell", "b", kind))
        for wrong in [*ANY_VALUES, "plain.0", "other", ["plain"]]:
            self.check_refused(UnknownKind, wrong, net, ("cell", "d", wrong))

    def test_full_networks(self):
        net = live(limit=3)
        self.check_refused(Full, 3, net, ("cell", "d", "plain"))
        self.check_refused(InvalidName, "D", net, ("cell", "D", "other"))
        self.check_refused(DuplicateCell, "a", net, ("cell", "a", "other"))
        self.check_refused(UnknownKind, "other", net, ("cell", "d", "other"))
        net.apply(("drop", "a"), ("cell", "d", "plain"), ("drop", "d"), ("cell", "a", "plain"))
        self.check_same_after(Full, 3, net, net.apply, ("drop", "a"), ("cell", "d", "root"), ("cell", "e", "root"))
        self.assertEqual(net.web().cells(), ["b", "c", "a"])
        net = live("")
        net.apply(*[("cell", name, "plain") for name in cell_names(24)])
        self.assertEqual(len(net), 24)
        self.check_refused(Full, 24, net, ("cell", "zz", "root"))
        net.undo()
        self.check_same_after(Full, 24, net, net.apply, *[("cell", name, "plain") for name in cell_names(25)])
        self.assertEqual([len(net), net.history()], [0, (0, 1)])

    def test_drop(self):
        net = live(TEXT + "tie link c c\ntie link a c\n")
        net.apply(("drop", "b"))
        self.assertEqual(net.web().text(), "cell a root\ncell c plain\ntie link c c\ntie link a c\n")
        for wrong in [value for value in ANY_VALUES if value != "a"] + ["b", "link", ("c",)]:
            self.check_refused(UnknownCell, wrong, net, ("drop", wrong))
        net.apply(("cell", "b", "root"))
        self.assertEqual(net.web().text(), "cell a root\ncell c plain\ncell b root\ntie link c c\ntie link a c\n")

    def test_kinds(self):
        net = live()
        net.apply(("kind", "b", "root"), ("kind", "c", "plain"))
        self.assertEqual([net.web().text(), net.value_of("b"), net.value_of("c")],
                         [TEXT.replace("b plain", "b root"), ("0",), ("1",)])
        for wrong in [value for value in ANY_VALUES if value != "a"] + ["d"]:
            for kind in ("plain", "other", wrong):
                self.check_refused(UnknownCell, wrong, net, ("kind", wrong, kind))
        for wrong in [*ANY_VALUES, "plain.0", "other", ["plain"]]:
            self.check_refused(UnknownKind, wrong, net, ("kind", "a", wrong))

    def test_ties(self):
        net = live()
        net.apply(("tie", "link", "a", "c"), ("tie", "link", "c", "c"), ("tie", "link", "c", "a"))
        self.assertEqual(net.web().text(), TEXT + "tie link a c\ntie link c c\ntie link c a\n")
        for wrong in [*ANY_VALUES, "road", "plain", ["link"]]:
            for source, target in (("a", "b"), ("x", "y"), (wrong, "b")):
                self.check_refused(UnknownTie, wrong, net, ("tie", wrong, source, target))
        for wrong in [value for value in ANY_VALUES if value != "a"] + ["d"]:
            for target in ("b", "y", wrong):
                self.check_refused(UnknownCell, wrong, net, ("tie", "link", wrong, target))
            self.check_refused(UnknownCell, wrong, net, ("tie", "link", "a", wrong))
        for tie in net.web().ties():
            self.check_refused(DuplicateTie, tie, net, ("tie", *tie))

    def test_cut(self):
        net = live()
        net.apply(("cut", "link", "a", "b"))
        self.assertEqual(net.web().ties(), [("link", "b", "c")])
        net.apply(("tie", "link", "a", "b"), ("cut", "link", "b", "c"), ("tie", "link", "b", "c"))
        self.assertEqual(net.web().ties(), [("link", "a", "b"), ("link", "b", "c")])
        for wrong in [*ANY_VALUES, "road"]:
            for tie in ((wrong, "a", "b"), ("link", wrong, "c"), ("link", "b", wrong), (wrong, wrong, wrong)):
                self.check_refused(MissingTie, tie, net, ("cut", *tie))

    def test_rules(self):
        net = live()
        net.apply(("rules", SHORT))
        self.assertEqual([net.book.text(), net.stand], [SHORT, {"a": ("0",), "b": ("1",), "c": None}])
        for wrong, line in ((None, 0), (5, 0), (["x"], 0), ("", 0), ("field", 0), (AGES + "x", 7), (AGES + "\n", 7),
                            (AGES.replace("tie link", "tie Link"), 1), (AGES[:20], 1), (UNSETTLED + "x\n", 6)):
            self.check_refused(InvalidRulebook, line, net, ("rules", wrong))
        for text in (UNSETTLED, UNSETTLED.replace("plain", "plan"), ECHO):
            self.check_unsettled(net, ("rules", text))
        for old, new, error, given in (("plain", "plan", UnknownKind, "plain"), ("root", "rot", UnknownKind, "root"),
                                       ("tie link", "tie road", UnknownTie, "link")):
            self.check_refused(error, given, net, ("rules", AGES.replace(old, new)))
        both = AGES.replace("plain", "plan").replace("root", "rot").replace("link", "road")
        self.check_refused(UnknownKind, "root", net, ("rules", both))
        net.apply(("cell", "d", "plain"), ("drop", "a"), ("drop", "b"), ("drop", "c"), ("drop", "d"), ("rules", both),
                  ("cell", "a", "rot"), ("cell", "b", "plan"), ("tie", "road", "a", "b"))
        self.assertEqual(net.stand, {"a": ("0",), "b": ("1",)})
        self.check_refused(UnknownKind, "plain", net, ("cell", "c", "plain"))

    def check_unsettled(self, net, command):
        before = seen(net)
        for commands in ([command], [("cell", "zz", "plain"), command], [command, 5]):
            with self.assertRaises(Unsettled):
                net.apply(*commands)
            self.assertEqual(seen(net), before)

    def test_the_first_tie_that_the_rulebook_does_not_have(self):
        two = AGES.replace("cell plain", "tie road\nwhen always do drop\ncell plain")
        net = Live(Rulebook.read(two), network=Network.read(TEXT + "tie road b c\ntie road a b\n"))
        self.check_refused(UnknownTie, "road", net, ("rules", AGES))
        net.apply(("cut", "road", "b", "c"), ("cut", "road", "a", "b"), ("rules", AGES))
        self.assertEqual(net.web().text(), TEXT)

    def test_values_that_are_no_commands(self):
        net = live()
        for wrong in [*[value for value in ANY_VALUES if not isinstance(value, tuple)], ["cell", "d", "plain"],
                      ["drop", "a"], "drop a"]:
            self.check_refused(InvalidCommand, None, net, wrong)
        self.check_refused(InvalidCommand, None, net, ())
        for word in ("cell", "drop", "kind", "tie", "cut", "rules"):
            length = {"cell": 3, "drop": 2, "kind": 3, "tie": 4, "cut": 4, "rules": 2}[word]
            for many in range(1, 7):
                for filler in ("a", "link", None, ["x"]):
                    if many != length:
                        self.check_refused(InvalidCommand, word, net, (word, *[filler] * (many - 1)))
        for word in [*ANY_VALUES, "undo", "Cell", "cells", "cell ", ["cell"], ("cell",), "value"]:
            for many in range(5):
                self.check_refused(InvalidCommand, word, net, (word, *["a"] * many))


class StepsTest(LiveCase):
    def test_steps_of_none_one_and_many_commands(self):
        net = live("")
        net.apply()
        self.assertEqual([net.history(), net.changed, len(net)], [(1, 0), [], 0])
        net.apply(("cell", "a", "root"))
        net.apply(("cell", "c", "plain"), ("cell", "b", "plain"), ("tie", "link", "a", "b"), ("tie", "link", "b", "c"))
        self.assertEqual([net.history(), net.changed], [(3, 0), ["b", "c"]])
        self.assertEqual(net.stand, {"a": ("0",), "c": ("2",), "b": ("1",)})
        net.apply()
        self.assertEqual([net.history(), net.changed], [(4, 0), []])

    def test_the_first_error_in_order(self):
        net = live()
        for commands, error, given in (
                ([("drop", "x"), ("drop", "y")], UnknownCell, "x"),
                ([("drop", "a"), ("drop", "a")], UnknownCell, "a"),
                ([("drop", "a"), ("cut", "link", "a", "b"), 5], MissingTie, ("link", "a", "b")),
                ([("cell", "d", "plain"), ("cell", "d", "other"), None], DuplicateCell, "d"),
                ([("tie", "link", "c", "a"), ("drop", "b"), ("tie", "link", "c", "a")], DuplicateTie, ("link", "c", "a")),
                ([("cell", "d", "plain"), None, ("drop", "x")], InvalidCommand, None),
                ([("drop", "x"), None], UnknownCell, "x"),
                ([("rules", "x"), ("drop", "x")], InvalidRulebook, 0)):
            self.check_same_after(error, given, net, net.apply, *commands)
        self.assertEqual(net.history(), (0, 0))

    def test_later_commands_go_by_the_rules_of_earlier_ones(self):
        net = live("cell b plain\n")
        more = AGES + "cell third\n"
        net.apply(("rules", more), ("cell", "c", "third"), ("kind", "b", "third"))
        self.check_same_after(UnknownKind, "third", net, net.apply, ("rules", AGES))
        self.check_same_after(UnknownKind, "third", net, net.apply, ("kind", "b", "plain"), ("rules", AGES))
        net.apply(("kind", "b", "plain"), ("drop", "c"), ("rules", AGES))
        self.assertEqual([net.book.text(), net.web().text()], [AGES, "cell b plain\n"])

    def test_changed(self):
        net = live()
        for commands, changed in (([("cut", "link", "b", "c")], ["c"]),
                                  ([("cell", "d", "plain"), ("tie", "link", "b", "d")], ["d"]),
                                  ([("cell", "e", "plain")], ["e"]), ([("drop", "e")], []),
                                  ([("drop", "a")], ["b", "d"]), ([("cell", "a", "root")], ["a"]),
                                  ([("tie", "link", "a", "b")], ["b", "d"]), ([("tie", "link", "c", "b")], []),
                                  ([("kind", "c", "root")], ["c"]), ([("rules", SHORT)], ["d"]),
                                  ([("rules", SHORT)], []), ([("drop", "d"), ("cell", "d", "plain")], []),
                                  ([("drop", "c"), ("cell", "c", "plain")], ["c"]),
                                  ([("cell", "z", "root"), ("drop", "z")], []),
                                  ([("cut", "link", "a", "b"), ("tie", "link", "a", "b")], [])):
            net.apply(*commands)
            self.assertEqual(net.changed, changed, commands)
        net.undo()
        self.assertEqual(net.changed, [])
        with self.assertRaises(BestError):
            net.apply(("cell", "q", "root"), 5)
        self.assertEqual(net.changed, [])

    def test_changed_by_another_rulebook_and_other_values(self):
        net = Live(Rulebook.read(LEVELS), network=Network.read("cell p plain\ncell g good\ncell b bad\ntie link g p\n"))
        net.apply(("rules", LEVELS.replace("good\nborn 0 a", "good\nborn 0 b")))
        self.assertEqual([net.changed, net.value_of("p")], [["g", "p"], ("1", "b")])
        one = "field v a b\ntie link\nwhen always do drop\ncell plain\ncell good\nborn a\ncell bad\n"
        net.apply(("rules", one))
        self.assertEqual([net.changed, net.stand], [["b", "g", "p"], {"p": None, "g": ("a",), "b": None}])

    def test_undo_redo_and_a_new_step(self):
        net = live("")
        steps = [[("cell", "a", "root")], [("cell", "b", "plain"), ("tie", "link", "a", "b")], [("rules", SHORT)],
                 [], [("cell", "c", "plain"), ("tie", "link", "b", "c")], [("drop", "a")], [("rules", AGES)]]
        states = [(net.web().text(), net.book.text(), net.stand)]
        for commands in steps:
            net.apply(*commands)
            states.append((net.web().text(), net.book.text(), net.stand))
        for call, order in ((net.undo, range(6, -1, -1)), (net.redo, range(1, 8))):
            before = states[7] if call == net.undo else states[0]
            for at in order:
                self.assertIsNone(call())
                self.assertEqual((net.web().text(), net.book.text(), net.stand), states[at])
                self.assertEqual(net.history(), (at, 7 - at))
                self.assertEqual(net.changed, [cell for cell in sorted(states[at][2]) if cell not in before[2]
                                               or before[2][cell] != states[at][2][cell]])
                before = states[at]
            self.check_empty(net, call)
        for _ in range(4):
            net.undo()
        net.apply(("cell", "z", "plain"))
        self.assertEqual([net.history(), net.web().cells()], [(4, 0), ["a", "b", "z"]])
        self.check_empty(net, net.redo)
        net.undo()
        net.undo()
        net.apply()
        self.assertEqual([net.history(), net.book.text()], [(3, 0), AGES])

    def check_empty(self, net, call):
        before = seen(net)
        with self.assertRaises(EmptyHistory):
            call()
        self.assertEqual(seen(net), before)

    def test_a_step_with_an_error_keeps_what_can_be_redone(self):
        net = live("")
        net.apply(("cell", "a", "root"))
        net.apply(("cell", "b", "plain"))
        net.undo()
        self.check_same_after(UnknownCell, "x", net, net.apply, ("cell", "c", "root"), ("drop", "x"))
        self.assertEqual([net.history(), net.changed], [(1, 1), []])
        net.redo()
        self.assertEqual([net.history(), net.changed, net.web().cells()], [(2, 0), ["b"], ["a", "b"]])

    def test_without_steps(self):
        for net in (live(), Live(BOOK)):
            self.check_empty(net, net.undo)
            self.check_empty(net, net.redo)

    def test_busy(self):
        net = live()
        self.assertIs(net.busy, False)
        found = []
        with mock.patch("bestheard.live.Step.take", lambda step, command: found.append((net.busy, command))):
            net.apply(1, 2)
        self.assertEqual(found, [(True, 1), (True, 2)])
        for commands in ([], [("cell", "d", "plain")], [5], [("drop", "x")], [("rules", UNSETTLED)], [("rules", None)]):
            try:
                net.apply(*commands)
            except (BestError, Missing):
                pass
            self.assertIs(net.busy, False)


class LimitTest(LiveCase):
    def set_by_name(self, net, value):
        net.limit = value

    def test_right_ones(self):
        net = live()
        for limit in (3, 24, 4, 10):
            net.limit = limit
            self.assertEqual(net.limit, limit)
            self.assertIsNone(net.set_limit(value=limit + 1 if limit < 24 else 24))
            self.assertEqual(net.limit, min(limit + 1, 24))
        net = Live(BOOK)
        net.limit = 1
        net.apply(("cell", "a", "root"))
        self.check_refused(Full, 1, net, ("cell", "b", "root"))
        net.limit += 1
        net.apply(("cell", "b", "root"))
        self.assertEqual([len(net), net.history(), net.limit], [2, (2, 0), 2])

    def test_wrong_ones(self):
        net = live()
        for wrong in [*NO_LIMITS, 1, 2]:
            self.check_same_after(InvalidLimit, wrong, net, net.set_limit, wrong)
            self.check_same_after(InvalidLimit, wrong, net, self.set_by_name, net, wrong)
        self.check_error(InvalidLimit, 0, Live(BOOK).set_limit, 0)

    def test_undo_and_redo_do_not_look_at_it(self):
        net = live()
        net.apply(("drop", "c"))
        net.limit = 2
        net.undo()
        self.assertEqual([len(net), net.limit], [3, 2])
        self.check_refused(Full, 2, net, ("cell", "d", "plain"))
        for wrong in (1, 2):
            self.check_same_after(InvalidLimit, wrong, net, net.set_limit, wrong)
        net.set_limit(3)
        net.redo()
        net.limit = 2
        net.undo()
        other = net.clone()
        self.assertEqual([len(other), other.limit, other.history()], [3, 2, (0, 1)])
        self.check_refused(Full, 2, other, ("cell", "d", "plain"))
        other.apply(("drop", "a"), ("drop", "b"), ("cell", "d", "plain"))
        self.assertEqual([len(other), len(net)], [2, 3])

    def test_it_is_no_part_of_the_history(self):
        net = live("")
        net.apply(("cell", "a", "root"))
        net.limit = 5
        net.undo()
        self.assertEqual(net.limit, 5)


class ClonesTest(LiveCase):
    def test_each_goes_its_own_way(self):
        net = live(limit=6)
        net.apply(("drop", "c"))
        net.apply(("cell", "d", "plain"), ("tie", "link", "b", "d"))
        net.undo()
        other = net.clone()
        self.assertEqual(seen(other), seen(net))
        before = seen(net)
        other.redo()
        self.assertEqual([other.changed, other.stand["d"], seen(net)], [["d"], ("2",), before])
        other.limit = 4
        other.apply(("rules", SHORT), ("cell", "e", "root"))
        self.assertEqual([other.changed, seen(net)], [["d", "e"], before])
        before = seen(other)
        net.undo()
        net.apply(("drop", "a"))
        self.assertEqual(seen(other), before)
        for _ in range(3):
            other.undo()
        self.assertEqual([other.web().text(), other.book.text(), other.history()], [TEXT, AGES, (0, 3)])

    def test_a_clone_keeps_what_changed(self):
        net = live()
        net.apply(("cut", "link", "a", "b"))
        other = net.clone()
        self.assertEqual(other.changed, ["b", "c"])
        net.apply()
        self.assertEqual([net.changed, other.changed], [[], ["b", "c"]])


class EqualTest(LiveCase):
    def test_equal_ones(self):
        net = live()
        other = live("cell c plain\ncell a root\ncell b plain\ntie link b c\ntie link a b\n", limit=5)
        self.assertTrue(net == other and not net != other)
        other.apply()
        self.assertTrue(net == other and net.clone() == other)

    def test_different_ones(self):
        net = live()
        for other in (live(""), live(TEXT + "tie link c c\n"), live(TEXT.replace("c plain", "c root")),
                      Live(Rulebook.read(SHORT), network=Network.read(TEXT)), live(TEXT.replace("tie link b c\n", ""))):
            self.assertTrue(net != other and not net == other)
        for other in [*ANY_VALUES, net.web(), net.book, net.stand, repr(net), TEXT]:
            self.assertFalse(net == other)
            self.assertTrue(net != other)


class LiveAnew:
    """A live network as points 23 and 24 tell it; it takes right commands only."""

    def __init__(self, text):
        self.states = [(text, (), ())]
        self.at = 0

    def apply(self, commands):
        text, cells, ties = self.states[self.at]
        cells, ties = list(cells), list(ties)
        for word, *rest in commands:
            if word == "cell":
                cells.append(tuple(rest))
            if word == "drop":
                cells = [cell for cell in cells if cell[0] != rest[0]]
                ties = [tie for tie in ties if rest[0] not in tie[1:]]
            if word == "kind":
                cells = [tuple(rest) if cell[0] == rest[0] else cell for cell in cells]
            if word == "tie":
                ties.append(tuple(rest))
            if word == "cut":
                ties.remove(tuple(rest))
            if word == "rules":
                text = rest[0]
        self.states[self.at + 1:] = [(text, tuple(cells), tuple(ties))]
        self.at += 1

    def stand(self, at):
        text, cells, ties = self.states[at]
        return stand_of(tables_of(Rulebook.read(text)), Network(cells=cells, ties=ties))


class MadeSequencesTest(LiveCase):
    def command(self, maker):
        names, ties = "abcdef", ["link", "link", "link", "road"]
        return maker.choice([
            ("cell", maker.choice(names), maker.choice(["plain", "root", "plain", "other"])),
            ("drop", maker.choice(names)), ("kind", maker.choice(names), maker.choice(["plain", "root"])),
            ("tie", maker.choice(ties), maker.choice(names), maker.choice(names)),
            ("tie", "link", maker.choice(names), maker.choice(names)),
            ("cut", "link", maker.choice(names), maker.choice(names)), ("rules", maker.choice([AGES, SHORT])), None])

    def test_against_a_live_network_told_anew(self):
        for seed in range(40):
            maker = Maker(seed)
            net, other = Live(BOOK, limit=5), LiveAnew(AGES)
            for _ in range(40):
                before, was = seen(net), other.stand(other.at)
                choice = maker.number(0, 9)
                if choice in (0, 1):
                    step = -1 if choice == 0 else 1
                    if not 0 <= other.at + step < len(other.states):
                        with self.assertRaises(EmptyHistory):
                            (net.undo if choice == 0 else net.redo)()
                        continue
                    (net.undo if choice == 0 else net.redo)()
                    other.at += step
                else:
                    commands = [self.command(maker) for _ in range(maker.number(0, 3))]
                    try:
                        net.apply(*commands)
                    except (BestError, Missing):
                        self.assertEqual(seen(net), before)
                        continue
                    other.apply(commands)
                text, cells, ties = other.states[other.at]
                stand = other.stand(other.at)
                self.assertEqual([net.book.text(), net.web().text(), net.history()],
                                 [text, Network(cells=cells, ties=ties).text(),
                                  (other.at, len(other.states) - other.at - 1)])
                self.assertEqual(net.stand, stand)
                self.assertIs(is_stand(tables_of(net.book), net.web(), net.stand), True)
                self.assertEqual(net.changed, sorted(cell for cell in stand if cell not in was or was[cell] != stand[cell]))
                self.assertEqual(seen(net.clone()), seen(net))


if __name__ == "__main__":
    unittest.main()
