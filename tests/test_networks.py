"""Tests of bestheard.networks: networks made, changed, asked, compared and joined."""

import inspect
import itertools
import types
import unittest

from bestheard.errors import (DuplicateCell, DuplicateTie, InvalidName, InvalidNetwork, KindsDiffer, MissingTie,
                              UnknownCell)
from bestheard.networks import Network
from samples import ANY_VALUES, ErrorCase, Maker

CELLS = [("a", "root"), ("b", "plain"), ("c", "plain.2")]
TIES = [("link", "a", "b"), ("link", "b", "a"), ("road", "a", "b"), ("link", "b", "c"), ("link", "c", "c")]
NO_CELLS = [value for value in ANY_VALUES if value != "a"] + ["d", "A", " a", ("a",), ["a"]]
NO_NAMES = [value for value in ANY_VALUES if value not in ("a", "age")] + ["abcdefghi", "a1", "a-", "Ab"]
NO_KINDS = NO_NAMES + ["a.", "a.3", "a.00", "a.0.0", ".0", ".", "a.0 ", "a .0", "a:0", "A.0", "abcdefghi.0", "a.-1",
                       "a.a", "0.a", "a0.0", "a..0", ".0.0", "a.10", ("a", 0)]
KINDS = ["a", "abcdefgh", "z", "a.0", "a.1", "abcdefgh.2"]


def net():
    return Network(cells=CELLS, ties=TIES)


def seen(network):
    """Return all that can be seen of a network."""
    return (network.text(), network.cells(), network.ties(), repr(network), len(network))


class NetworkTest(ErrorCase):
    def check_same_after(self, error, given, network, call):
        """Check that a call raises this error, and that it changes nothing."""
        before = seen(network)
        self.check_error(error, given, call)
        self.assertEqual(seen(network), before)


class MadeTest(NetworkTest):
    def test_with_and_without_cells_and_ties(self):
        self.assertEqual([Network().cells(), Network().ties(), len(Network())], [[], [], 0])
        self.assertEqual(Network(cells=[("a", "k")]).cells(), ["a"])
        network = net()
        self.assertEqual([network.cells(), network.ties(), len(network)], [["a", "b", "c"], TIES, 3])
        self.assertEqual([network[name] for name in "abc"], ["root", "plain", "plain.2"])
        self.assertEqual(seen(Network(cells=tuple(CELLS), ties=tuple(TIES))), seen(network))
        self.assertEqual(str(inspect.signature(Network)), "(*, cells=(), ties=())")

    def test_lists_that_are_changed_later(self):
        cells, ties = list(CELLS), list(TIES)
        network = Network(cells=cells, ties=ties)
        cells.clear()
        ties.clear()
        self.assertEqual(seen(network), seen(net()))
        for method in (network.cells, network.ties, lambda: network.ties_into("b"), lambda: network.ties_from("b")):
            method().clear()
            method().append(5)
        self.assertEqual(seen(network), seen(net()))
        self.assertEqual([len(network.ties_into("b")), len(network.ties_from("b"))], [2, 2])

    def test_arguments_are_not_changed(self):
        cells, ties = list(CELLS), list(TIES)
        Network(cells=cells, ties=ties).drop("a")
        self.assertEqual([cells, ties], [CELLS, TIES])

    def test_the_first_item_with_an_error(self):
        for cells, ties, error, given in (
                ([("a", "k"), ("B", "k"), ("a", "k")], [], InvalidName, "B"),
                ([("a", "k"), ("a", "K"), ("B", "k")], [], DuplicateCell, "a"),
                ([("a", "k"), ("b", "K"), ("a", "k")], [("T", "a", "b")], InvalidName, "K"),
                ([("a", "k"), (["b"], "k")], [], InvalidName, ["b"]),
                ([("a", None)], [], InvalidName, None),
                ([("a", "k")], [("t", "a", "a"), ("t", "a", "b"), ("T", "a", "a")], UnknownCell, "b"),
                ([("a", "k")], [("t", "a", "a"), ("t", "a", "a"), ("t", "b", "a")], DuplicateTie, ("t", "a", "a")),
                ([("a", "k")], [("t", "a", "a"), (5, "b", "c")], InvalidName, 5),
                ([], [("t", "a", "b")], UnknownCell, "a")):
            self.check_same_after(error, given, net(), lambda: Network(cells=cells, ties=ties))

    def test_methods_stand_in_the_class_itself(self):
        for name in ("read add_cell add_tie cut drop cells ties ties_into ties_from set_kind is_part_of walk clone "
                     "text __init__ __getitem__ __setitem__ __contains__ __len__ __eq__ __or__ __ior__ "
                     "__repr__").split():
            self.assertIn(name, vars(Network))


class ChangedTest(NetworkTest):
    def test_add_cell(self):
        network = net()
        for name, kind in zip(["d", "abcdefgh", "tie", "cell", "zz", "zy"], KINDS):
            self.assertIsNone(network.add_cell(name, kind))
            self.assertEqual([network.cells()[-1], network[name]], [name, kind])
        network.add_cell(kind="k", name="aa")
        self.assertEqual(network.cells()[-1], "aa")

    def test_add_cell_that_is_refused(self):
        network = net()
        for wrong in NO_NAMES:
            for kind in ("k", "K", wrong):
                self.check_same_after(InvalidName, wrong, network, lambda: network.add_cell(wrong, kind))
        for kind in ("root", "plain", "K", None, [1]):
            self.check_same_after(DuplicateCell, "a", network, lambda: network.add_cell("a", kind))
        for wrong in NO_KINDS:
            self.check_same_after(InvalidName, wrong, network, lambda: network.add_cell("d", wrong))

    def test_add_tie(self):
        network = net()
        for tie in (("link", "a", "a"), ("link", "a", "c"), ("abcdefgh", "a", "b"), ("a", "b", "b")):
            self.assertIsNone(network.add_tie(*tie))
            self.assertEqual(network.ties()[-1], tie)
        network.add_tie(target="a", source="c", tie="road")
        self.assertEqual(network.ties()[-1], ("road", "c", "a"))

    def test_add_tie_that_is_refused(self):
        network = net()
        for wrong in NO_NAMES + ["link.0"]:
            for source, target in (("a", "b"), ("x", "b"), ("a", wrong)):
                self.check_same_after(InvalidName, wrong, network, lambda: network.add_tie(wrong, source, target))
        for wrong in NO_CELLS:
            for target in ("a", "x", wrong):
                self.check_same_after(UnknownCell, wrong, network, lambda: network.add_tie("link", wrong, target))
            self.check_same_after(UnknownCell, wrong, network, lambda: network.add_tie("link", "a", wrong))
        for tie in TIES:
            self.check_same_after(DuplicateTie, tie, network, lambda: network.add_tie(*tie))

    def test_cut(self):
        network = net()
        self.assertIsNone(network.cut("road", "a", "b"))
        self.assertEqual(network.ties(), [TIES[0], TIES[1], TIES[3], TIES[4]])
        network.cut(target="c", source="c", tie="link")
        self.assertEqual(network.ties(), [TIES[0], TIES[1], TIES[3]])
        network.add_tie("road", "a", "b")
        self.assertEqual(network.ties(), [TIES[0], TIES[1], TIES[3], TIES[2]])

    def test_cut_that_is_refused(self):
        network = net()
        for tie in (("link", "a", "c"), ("path", "a", "b"), ("link", "x", "y"), ("a", "link", "b"), ("LINK", "a", "b")):
            self.check_same_after(MissingTie, tie, network, lambda: network.cut(*tie))
        for wrong in ANY_VALUES:
            for tie in ((wrong, "a", "b"), ("link", wrong, "b"), ("link", "a", wrong), (wrong, wrong, wrong)):
                if tie not in TIES:
                    self.check_same_after(MissingTie, tie, network, lambda: network.cut(*tie))
        network.cut("link", "a", "b")
        self.check_same_after(MissingTie, TIES[0], network, lambda: network.cut("link", "a", "b"))

    def test_drop(self):
        for name, cells, ties in (("a", ["b", "c"], TIES[3:]), ("b", ["a", "c"], TIES[4:]),
                                  ("c", ["a", "b"], TIES[:3])):
            network = net()
            self.assertIsNone(network.drop(name))
            self.assertEqual([network.cells(), network.ties(), name in network], [cells, ties, False])
            left = Network(cells=[cell for cell in CELLS if cell[0] != name], ties=ties)
            self.assertTrue(network == left and left == network and network.clone() == left)
            self.check_same_after(UnknownCell, name, network, lambda: network.drop(name))
            network.add_cell(name, "new")
            self.assertEqual([network.cells(), network.ties(), network[name]], [[*cells, name], ties, "new"])

    def test_drop_a_cell_that_is_called_like_a_tie(self):
        network = Network(cells=[("link", "k"), ("b", "k")], ties=[("link", "b", "b"), ("link", "b", "link")])
        network.drop("link")
        self.assertEqual([network.cells(), network.ties()], [["b"], [("link", "b", "b")]])

    def test_drop_that_is_refused(self):
        network = net()
        for wrong in NO_CELLS:
            self.check_same_after(UnknownCell, wrong, network, lambda: network.drop(wrong))

    def test_set_kind_both_ways(self):
        for kind in KINDS:
            network, other = net(), net()
            self.assertIsNone(network.set_kind("b", kind))
            other["b"] = kind
            self.assertEqual([network["b"], other["b"], network["a"], network["c"]], [kind, kind, "root", "plain.2"])
            self.assertEqual([network.cells(), other.cells()], [["a", "b", "c"]] * 2)
            self.assertEqual([network.ties(), other.ties()], [TIES, TIES])
        network = net()
        network.set_kind(kind="k", name="a")
        self.assertEqual(network["a"], "k")

    def test_set_kind_that_is_refused(self):
        network = net()

        def assign(name, kind):
            network[name] = kind

        for call in (network.set_kind, assign):
            for wrong in NO_CELLS:
                for kind in ("k", "K", wrong):
                    self.check_same_after(UnknownCell, wrong, network, lambda: call(wrong, kind))
            for wrong in NO_KINDS:
                self.check_same_after(InvalidName, wrong, network, lambda: call("a", wrong))


class AskedTest(NetworkTest):
    def test_kinds_of_cells(self):
        network = net()
        for wrong in NO_CELLS + [0, slice(0, 1), -1]:
            self.check_same_after(UnknownCell, wrong, network, lambda: network[wrong])

    def test_ties_into_and_from(self):
        network = net()
        self.assertEqual(network.ties_into("a"), [TIES[1]])
        self.assertEqual(network.ties_into("b"), [TIES[0], TIES[2]])
        self.assertEqual(network.ties_into("c"), [TIES[3], TIES[4]])
        self.assertEqual(network.ties_from("a"), [TIES[0], TIES[2]])
        self.assertEqual(network.ties_from("b"), [TIES[1], TIES[3]])
        self.assertEqual(network.ties_from(name="c"), [TIES[4]])
        self.assertEqual(Network(cells=[("a", "k")]).ties_into(name="a"), [])
        for wrong in NO_CELLS:
            self.check_same_after(UnknownCell, wrong, network, lambda: network.ties_into(wrong))
            self.check_same_after(UnknownCell, wrong, network, lambda: network.ties_from(wrong))

    def test_in(self):
        network = net()
        for name in "abc":
            self.assertIs(name in network, True)
        for wrong in NO_CELLS + ["root", "link", "plain.2"]:
            self.assertIs(wrong in network, False)
            self.assertIs(wrong not in network, True)

    def test_len_and_repr(self):
        network = net()
        self.assertEqual([len(network), repr(network)], [3, "Network(3 cells, 5 ties)"])
        network.drop("c")
        self.assertEqual([len(network), repr(network)], [2, "Network(2 cells, 3 ties)"])
        network.drop("a")
        self.assertEqual([len(network), repr(network)], [1, "Network(1 cells, 0 ties)"])
        self.assertEqual(repr(Network()), "Network(0 cells, 0 ties)")

    def test_a_network_is_not_iterable(self):
        for network in (net(), Network()):
            for call in (iter, list, tuple, set, sorted, enumerate, lambda found: [name for name in found]):
                with self.assertRaises(TypeError):
                    call(network)

    def test_clone(self):
        network = net()
        other = network.clone()
        self.assertEqual(seen(other), seen(network))
        self.assertIsNot(other, network)
        other.drop("a")
        other["b"] = "new"
        self.assertEqual(seen(network), seen(net()))
        other = network.clone()
        network.cut("road", "a", "b")
        network.add_cell("d", "k")
        self.assertEqual(seen(other), seen(net()))


class ComparedTest(NetworkTest):
    def test_equal_in_whatever_order(self):
        for cells in itertools.permutations(CELLS):
            for ties in (TIES, TIES[::-1], TIES[2:] + TIES[:2]):
                other = Network(cells=cells, ties=ties)
                self.assertTrue(other == net() and net() == other and not net() != other)
                self.assertTrue(other.is_part_of(net()) and net().is_part_of(other))
        self.assertTrue(Network() == Network())

    def test_different_ones(self):
        others = [Network(), Network(cells=CELLS), Network(cells=CELLS, ties=TIES[:4]),
                  Network(cells=[*CELLS, ("d", "k")], ties=TIES),
                  Network(cells=CELLS, ties=[*TIES, ("road", "b", "a")]),
                  Network(cells=CELLS, ties=[*TIES[:4], ("road", "c", "c")]),
                  Network(cells=[*CELLS[:2], ("c", "plain.1")], ties=TIES), Network(cells=CELLS[:2], ties=TIES[:3])]
        for other in others:
            self.assertTrue(other != net() and net() != other and not other == net())

    def test_a_network_equals_nothing_else(self):
        for other in [*ANY_VALUES, net().text(), (CELLS, TIES), dict(CELLS), ["a", "b", "c"]]:
            self.assertFalse(net() == other)
            self.assertTrue(net() != other)

    def test_is_part_of(self):
        for part in (Network(), Network(cells=CELLS[1:]), Network(cells=CELLS),
                     Network(cells=CELLS[::-1], ties=TIES[3:]), Network(cells=CELLS[:2], ties=TIES[1:2])):
            self.assertIs(part.is_part_of(net()), True)
            self.assertIs(net().is_part_of(other=part), False)
        for other in (Network(cells=[("a", "plain")]), Network(cells=[("d", "root")]),
                      Network(cells=CELLS, ties=[("road", "b", "a")]), Network(cells=CELLS, ties=[("path", "a", "b")]),
                      Network(cells=[("c", "plain")]), Network(cells=[*CELLS, ("d", "root")], ties=TIES)):
            self.assertIs(other.is_part_of(net()), False)

    def test_nothing_changes(self):
        network, other = net(), Network(cells=CELLS[1:], ties=TIES[3:])
        before = (seen(network), seen(other))
        self.assertFalse(network == other or network.is_part_of(other) or not other.is_part_of(network))
        self.assertEqual((seen(network), seen(other)), before)


class JoinedTest(NetworkTest):
    LEFT = Network(cells=[("b", "plain"), ("a", "root")], ties=[("road", "a", "b"), ("link", "a", "b")])
    RIGHT = Network(cells=[("d", "far"), ("a", "root"), ("c", "plain.0")],
                    ties=[("link", "a", "d"), ("link", "c", "c"), ("road", "d", "a")])

    def test_or(self):
        left, right = self.LEFT.clone(), self.RIGHT.clone()
        joined = left | right
        self.assertEqual(joined.cells(), ["b", "a", "d", "c"])
        self.assertEqual([joined[name] for name in "badc"], ["plain", "root", "far", "plain.0"])
        self.assertEqual(joined.ties(), left.ties() + right.ties())
        self.assertEqual([seen(left), seen(right)], [seen(self.LEFT), seen(self.RIGHT)])
        joined.drop("a")
        self.assertEqual([seen(left), seen(right)], [seen(self.LEFT), seen(self.RIGHT)])
        self.assertEqual((right | left).cells(), ["d", "a", "c", "b"])
        self.assertEqual(right | left, left | right)

    def test_or_with_common_ties(self):
        other = Network(cells=CELLS, ties=TIES)
        self.assertEqual((self.LEFT | other).ties(),
                         [TIES[2], TIES[0], TIES[1], TIES[3], TIES[4]])
        self.assertEqual((other | self.LEFT).ties(), TIES)
        self.assertEqual(seen(other | other), seen(other))
        self.assertEqual(seen(other | Network()), seen(other))
        self.assertEqual(seen(Network() | other), seen(other))

    def test_or_in_place(self):
        one, right = self.LEFT.clone(), self.RIGHT.clone()
        held = one
        one |= right
        self.assertIs(one, held)
        self.assertEqual(seen(one), seen(self.LEFT | self.RIGHT))
        self.assertEqual(seen(right), seen(self.RIGHT))
        one.drop("d")
        self.assertEqual(seen(right), seen(self.RIGHT))
        right.drop("c")
        self.assertIn("c", one)
        one = net()
        one |= one
        self.assertEqual(seen(one), seen(net()))

    def test_kinds_differ(self):
        one = Network(cells=[("a", "root"), ("b", "plain"), ("c", "far")], ties=[("link", "a", "b")])
        other = Network(cells=[("c", "near"), ("b", "far"), ("d", "new"), ("a", "root")], ties=[("link", "d", "a")])

        def join(left, right):
            left |= right

        for left, right, name in ((one, other, "b"), (other, one, "c"), (net(), Network(cells=[("c", "plain")]), "c")):
            for network in (left, right):
                self.check_same_after(KindsDiffer, name, network, lambda: left | right)
                self.check_same_after(KindsDiffer, name, network, lambda: join(left, right))

    def test_made_ones(self):
        for seed in range(40):
            maker = Maker(seed)
            one = maker.network(["plain"], ["link", "road"])
            other = maker.network(["plain"], ["link", "road"])
            joined = one | other
            self.assertTrue(one.is_part_of(joined) and other.is_part_of(joined))
            self.assertEqual(set(joined.ties()), set(one.ties()) | set(other.ties()))
            self.assertEqual(one.is_part_of(other), joined == other)


def distances_anew(network, start):
    """Return the least distances by trying all lengths of ways."""
    found, reached = {}, {start}
    for distance in range(len(network) + 1):
        for name in reached:
            found.setdefault(name, distance)
        reached = {target for _, source, target in network.ties() if source in reached}
    return found


class WalkTest(NetworkTest):
    def walk(self, cells, ties, start):
        network = Network(cells=[(name, "k") for name in cells.split()], ties=[tuple(tie.split()) for tie in ties])
        return [f"{name}{distance}" for name, distance in network.walk(start)]

    def test_several_ways_circles_and_ties_to_itself(self):
        self.assertEqual(self.walk("a", [], "a"), ["a0"])
        self.assertEqual(self.walk("a b", ["t a a"], "a"), ["a0"])
        self.assertEqual(self.walk("a b", ["t b a"], "a"), ["a0"])
        self.assertEqual(self.walk("a b c", ["t a b", "t b c", "t c a"], "b"), ["b0", "c1", "a2"])
        self.assertEqual(self.walk("a b c d", ["t a b", "t a c", "u a b", "t c d", "t b d", "t a a", "t d a"], "a"),
                         ["a0", "b1", "c1", "d2"])
        # The ties from a stand behind others, and a longer way is listed first.
        self.assertEqual(self.walk("a b c d", ["t b c", "t c d", "t a b", "t a d"], "a"), ["a0", "b1", "d1", "c2"])

    def test_the_order_of_ties_and_of_found_cells(self):
        self.assertEqual(self.walk("a b c d e f", ["t c f", "t a c", "t b d", "t a b", "t c e", "t b f", "t c d"], "a"),
                         ["a0", "c1", "b1", "f2", "e2", "d2"])

    def test_made_ones(self):
        for seed in range(60):
            network = Maker(seed).network(["k"], ["s", "t"], cells=8, many=16)
            for start in network.cells():
                found = list(network.walk(start))
                self.assertEqual(dict(found), distances_anew(network, start))
                self.assertEqual(len(dict(found)), len(found))
                self.assertEqual([distance for _, distance in found], sorted(distance for _, distance in found))

    def test_it_is_a_generator(self):
        network = net()
        walk = network.walk(start="a")
        self.assertIsInstance(walk, types.GeneratorType)
        self.assertEqual([next(walk), list(walk)], [("a", 0), [("b", 1), ("c", 2)]])

    def test_errors_when_the_first_item_is_asked_for(self):
        network = net()
        for wrong in NO_CELLS:
            walk = network.walk(wrong)
            self.check_same_after(UnknownCell, wrong, network, lambda: next(walk))
        walk = network.walk("d")
        network.add_cell("d", "k")
        self.assertEqual(list(walk), [("d", 0)])

    def test_a_network_that_changes_on_the_way(self):
        network = net()
        for name, _ in network.walk("a"):
            network.drop(name)
        self.assertEqual(len(network), 0)


class TextsTest(NetworkTest):
    TEXT = ("cell a root\ncell b plain\ncell c plain.2\ntie link a b\ntie link b a\ntie road a b\ntie link b c\n"
            "tie link c c\n")

    def check_wrong(self, text, line):
        with self.assertRaises(InvalidNetwork, msg=text) as caught:
            Network.read(text)
        self.assertEqual(caught.exception.line, line, text)
        self.assertIs(caught.exception.line.__class__, int)

    def test_there_and_back(self):
        self.assertEqual(net().text(), self.TEXT)
        self.assertEqual(seen(Network.read(self.TEXT)), seen(net()))
        self.assertEqual([Network().text(), seen(Network.read(""))], ["", seen(Network())])
        self.assertEqual(seen(net().read(text="cell cell tie\ntie tie cell cell\n")),
                         seen(Network(cells=[("cell", "tie")], ties=[("tie", "cell", "cell")])))
        for seed in range(40):
            network = Maker(seed).network(["plain", "root.0", "a.2"], ["link", "tie"])
            self.assertEqual(seen(Network.read(network.text())), seen(network))

    def test_the_text_of_a_changed_network(self):
        network = net()
        network.set_kind("b", "far")
        network.drop("a")
        network.add_cell("a", "k.1")
        self.assertEqual(network.text(), "cell b far\ncell c plain.2\ncell a k.1\ntie link b c\ntie link c c\n")

    def test_no_strings(self):
        for value in ANY_VALUES + [[self.TEXT], (self.TEXT,)]:
            if not isinstance(value, str):
                self.check_wrong(value, 0)

    def test_wrong_lines(self):
        start = "cell a k\ncell b k\n"
        for line in ("", " ", "cell", "cell c", "cell c ", "cell c  k", "cell  c k", " cell c k", "cell c k ",
                     "cell c k k", "cell a k", "cell b j", "cell C k", "cell c K", "cell c1 k", "cell c k.3",
                     "cell c .0", "cell c k.", "cell c.0 k", "cell abcdefghi k", "Cell c k", "cells c k", "tie",
                     "tie t", "tie t a", "tie t a b c",
                     "tie t a  b", "tie t a b ", " tie t a b", "tie T a b", "tie t.0 a b", "tie t a c", "tie t c a",
                     "tie t A b", "Tie t a b", "tie  t a b", "tie t, a b", "network", "field a 0 1", "a k", "t a b"):
            self.check_wrong(start + line + "\n", 2)
            self.check_wrong(start + line + "\n" + "tie t a b\n", 2)
            self.check_wrong(start + line + "\nx", 2)
        self.check_wrong(start + "tie t a b\ntie t a b\n", 3)
        self.check_wrong(start + "tie t a b\ntie u a b\ntie t a a\ntie t a b\n", 5)
        self.check_wrong(start + "tie t a b\ncell c k\n", 3)
        self.check_wrong(start + "tie t a c\ncell c k\n", 2)
        self.check_wrong("tie t a b\n" + start, 0)
        self.check_wrong("\n", 0)
        self.check_wrong("cell a k\n\ncell b k\n", 1)
        self.check_wrong(start + "\n", 2)

    def test_characters_behind_the_last_line_feed(self):
        for text in ("", "cell a k\n", self.TEXT):
            for more in ("x", " ", "cell d k", "tie road c c"):
                self.check_wrong(text + more, text.count("\n"))
        self.check_wrong(self.TEXT[:-1], 7)
        self.check_wrong("cell A k\nx", 0)

    def test_lines_left_out_doubled_or_moved(self):
        lines = self.TEXT.split("\n")[:-1]
        for at, line in enumerate(lines):
            doubled = [*lines[:at], line, *lines[at:]]
            self.check_wrong("".join(row + "\n" for row in doubled), at + 1)
            rest = [*lines[:at], *lines[at + 1:]]
            text = "".join(row + "\n" for row in rest)
            if line.startswith("cell"):
                name = line.split(" ")[1]
                self.check_wrong(text, [row[:3] == "tie" and name in row.split(" ")[2:] for row in rest].index(True))
            else:
                self.assertEqual(Network.read(text).text(), text)
        self.check_wrong("".join(row + "\n" for row in [*lines[1:], lines[0]]), 2)
        self.check_wrong("".join(row + "\n" for row in [*lines[:2], lines[3], lines[2], *lines[4:]]), 3)


if __name__ == "__main__":
    unittest.main()
