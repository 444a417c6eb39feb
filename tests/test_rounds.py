"""Tests of bestheard.rounds: looking, rounds and stands."""

import copy
import unittest

from bestheard.errors import InvalidCount, InvalidState, UnknownCell, UnknownKind, UnknownTie
from bestheard.networks import Network
from bestheard.rounds import empty_state, is_stand, look, one_round, rounds_on
from bestheard.rulebooks import Rulebook
from bestheard.tables import mixture, tables_of
from bestheard.words import cell_names
from samples import AGES, ANY_VALUES, ROADS, ErrorCase, Maker

BOOK = Rulebook.read(AGES)
TABLES = tables_of(BOOK)
NET = Network.read("cell a root\ncell b plain\ncell c plain\ncell d plain\n"
                   "tie link a b\ntie link b c\ntie link c c\ntie link c b\n")
NO_HOLDINGS = [value for value in ANY_VALUES if value is not None and value != ("0",)] + [["0"], ("3",), (0,), "0"]
NO_COUNTS = [value for value in ANY_VALUES if not isinstance(value, int) or isinstance(value, bool)]
NO_COUNTS += [-1, 301, 10 ** 29, -10 ** 29, "1", [1], (1,)]


def held(*options):
    """Return the state of NET in which its cells hold these options."""
    return {cell: None if option is None else (option,) for cell, option in zip("abcd", options)}


def round_anew(book, network, state):
    """Return the state after a round as point 10 says it."""
    found = {}
    for cell in network.cells():
        kind = network[cell]
        offers = [book.offer(tie, kind, state[source]) for tie, source, target in network.ties() if target == cell]
        found[cell] = book.best(kind, *offers)
    return found


class RoundsTest(unittest.TestCase):
    def test_the_empty_state(self):
        self.assertEqual(empty_state(NET), held(None, None, None, None))
        self.assertEqual(list(empty_state(network=NET)), ["a", "b", "c", "d"])
        self.assertEqual(empty_state(Network()), {})
        self.assertEqual(empty_state(Network.read("cell a what\ntie any a a\n")), {"a": None})

    def test_look(self):
        state = held("2", "1", "0", "0")
        self.assertEqual([look(TABLES, NET, cell, state) for cell in "abcd"], [("0",), ("1",), ("1",), None])
        state = held("0", "2", "1", None)
        self.assertEqual([look(TABLES, NET, cell, state) for cell in "abcd"], [("0",), ("1",), ("2",), None])
        self.assertEqual(look(state=state, cell="c", network=NET, tables=TABLES), ("2",))

    def test_one_round(self):
        self.assertEqual(one_round(TABLES, NET, held("2", "1", "0", "0")), held("0", "1", "1", None))
        self.assertEqual(one_round(TABLES, NET, empty_state(NET)), held("0", None, None, None))
        self.assertEqual(one_round(network=NET, state=held("2", "2", "2", "2"), tables=TABLES),
                         held("0", None, None, None))

    def test_rounds_on(self):
        states = [held(None, None, None, None), held("0", None, None, None), held("0", "1", None, None),
                  held("0", "1", "2", None), held("0", "1", "2", None)]
        for many, state in enumerate(states):
            self.assertEqual(rounds_on(TABLES, NET, states[0], many), state)
        for many in (0, 1, 7, 299, 300):
            self.assertEqual(rounds_on(TABLES, NET, states[3], many=many), states[3])
        self.assertEqual(rounds_on(TABLES, NET, held("2", "0", "0", "1"), 0), held("2", "0", "0", "1"))

    def test_rounds_that_never_end(self):
        echo = tables_of(Rulebook.read("field age 0 1\ntie link\nwhen always do keep\ncell plain age+\n"))
        net = Network.read("cell a plain\ncell b plain\ntie link a b\ntie link b a\n")
        states = [{"a": ("0",), "b": None}, {"a": None, "b": ("0",)}]
        for many in (0, 1, 2, 3, 299, 300):
            self.assertEqual(rounds_on(echo, net, states[0], many), states[many % 2])
        self.assertEqual([is_stand(echo, net, state) for state in states], [False, False])
        for holding in (None, ("0",), ("1",)):
            self.assertIs(is_stand(echo, net, {"a": holding, "b": holding}), True)

    def test_is_stand(self):
        self.assertIs(is_stand(TABLES, NET, held("0", "1", "2", None)), True)
        for other in (held("0", "1", "2", "0"), held("0", "1", None, None), held("0", "2", "2", None),
                      held(None, "1", "2", None), held("1", "1", "2", None), empty_state(NET)):
            self.assertIs(is_stand(TABLES, NET, other), False)
        self.assertIs(is_stand(state=held("0", "1", "2", None), tables=TABLES, network=NET), True)

    def test_networks_without_cells_and_without_ties(self):
        self.assertEqual([one_round(TABLES, Network(), {}), rounds_on(TABLES, Network(), {}, 300)], [{}, {}])
        self.assertIs(is_stand(TABLES, Network(), {"x": 5}), True)
        net = Network.read("cell a root\ncell b plain\n")
        self.assertEqual(one_round(TABLES, net, {"a": ("2",), "b": ("2",)}), {"a": ("0",), "b": None})

    def test_keys_that_are_no_cells(self):
        more = {"x": ("0",), "link": 5, 7: [1], None: "a", ("a", "b"): None, True: {}}
        state = {**more, **held("2", "1", "0", "0")}
        self.assertEqual(list(one_round(TABLES, NET, state).items()), list(held("0", "1", "1", None).items()))
        self.assertEqual(rounds_on(TABLES, NET, state, 0), held("2", "1", "0", "0"))
        self.assertEqual(look(TABLES, NET, "c", state), ("1",))
        self.assertIs(is_stand(TABLES, NET, {**held("0", "1", "2", None), **more}), True)

    def test_the_cells_stand_in_the_order_of_the_network(self):
        state = dict(reversed(list(held("2", "1", "0", "0").items())))
        self.assertEqual(list(one_round(TABLES, NET, state)), ["a", "b", "c", "d"])
        self.assertEqual(list(rounds_on(TABLES, NET, state, 0)), ["a", "b", "c", "d"])

    def test_what_is_passed_stays(self):
        state = held("2", "1", "0", "0")
        before, text = copy.deepcopy(state), NET.text()
        found = [one_round(TABLES, NET, state), rounds_on(TABLES, NET, state, 0), rounds_on(TABLES, NET, state, 3)]
        look(TABLES, NET, "b", state)
        is_stand(TABLES, NET, state)
        for other in found:
            other.clear()
        self.assertEqual([state, NET.text(), TABLES == tables_of(BOOK)], [before, text, True])

    def test_several_ties_from_one_cell_and_ties_to_itself(self):
        book = Rulebook.read(ROADS)
        net = Network.read("cell a town\ncell b port\ntie road a b\ntie path a b\ntie road b b\ntie path b b\n")
        for one in book.order("town"):
            for other in book.order("port"):
                state = {"a": one, "b": other}
                offers = [book.offer(tie, "port", holding) for tie in ("road", "path") for holding in (one, other)]
                self.assertEqual(look(tables_of(book), net, "b", state), book.best("port", *offers))

    def test_made_ones(self):
        for seed in range(60):
            maker = Maker(seed)
            book = maker.book()
            tables = tables_of(book)
            for _ in range(4):
                net = maker.network(book.kind_names(), book.tie_names())
                state = maker.state(net, [None, *book.all_values()])
                now, many = state, maker.number(0, 6)
                for _ in range(many):
                    now = round_anew(book, net, now)
                self.assertEqual(rounds_on(tables, net, state, many), now)
                after = round_anew(book, net, state)
                self.assertEqual(one_round(tables, net, state), after)
                self.assertEqual({cell: look(tables, net, cell, state) for cell in net.cells()}, after)
                self.assertIs(is_stand(tables, net, state), after == state)
                late = rounds_on(tables, net, state, 100)
                self.assertIs(is_stand(tables, net, late), round_anew(book, net, late) == late)

    def test_mixtures(self):
        text = AGES.replace("cell plain age+", "cell plain age-").replace("age=2 do drop", "age=2 do keep")
        other = Rulebook.read(text)
        tables = mixture(BOOK, other)
        net = Network.read("cell a root.0\ncell b plain.0\ncell c plain.1\ncell d plain.0\n"
                           "tie link a b\ntie link b c\ntie link a c\ntie link c c\ntie link c d\n")
        states = [held("0", None, None, None), held("0", "1", "1", None), held("0", "1", "2", "2"),
                  held("0", "1", "2", None)]
        for many, state in enumerate(states):
            self.assertEqual(rounds_on(tables, net, states[0], many), state)
        self.assertIs(is_stand(tables, net, states[3]), True)

    def test_a_long_row(self):
        names = cell_names(300)
        keep = tables_of(Rulebook.read("field a 0 1\ntie t\nwhen always do keep\ncell k\ncell r\nborn 0\n"))
        net = Network(cells=[(name, "k" if at else "r") for at, name in enumerate(names)],
                      ties=[("t", one, other) for one, other in zip(names, names[1:])])
        state = rounds_on(keep, net, empty_state(net), 299)
        self.assertEqual([state[names[298]], state[names[299]]], [("0",), None])
        self.assertEqual(rounds_on(keep, net, empty_state(net), 300)[names[299]], ("0",))


class ErrorsTest(ErrorCase):
    def check_all(self, error, given, network, state, cell="a", many=1):
        for call, more in ((one_round, [state]), (is_stand, [state]), (rounds_on, [state, many]),
                           (look, [cell, state])):
            self.check_error(error, given, call, TABLES, network, *more)

    def test_unknown_kinds_and_ties_are_first(self):
        net = Network.read("cell a root\ncell b other\ncell c plain\ncell d plain.0\ntie link a b\ntie road a b\n"
                           "tie path a b\n")
        for state in (empty_state(net), {}, {"a": 5}):
            for cell, many in (("a", 1), ("x", 301), (5, None)):
                self.check_all(UnknownKind, "other", net, state, cell, many)
        net.set_kind("b", "plain")
        self.check_all(UnknownKind, "plain.0", net, {}, "x", -1)
        net.set_kind("d", "root")
        for state in (empty_state(net), {}, {"a": 5}):
            for cell, many in (("a", 1), ("x", 301), (5, None)):
                self.check_all(UnknownTie, "road", net, state, cell, many)
        net.cut("road", "a", "b")
        self.check_all(UnknownTie, "path", net, {}, "x", -1)
        net.cut("path", "a", "b")
        self.assertEqual(one_round(TABLES, net, empty_state(net))["a"], ("0",))

    def test_kinds_of_mixtures(self):
        net = Network.read("cell a plain.1\n")
        self.check_all(UnknownKind, "plain.1", net, {"a": None})
        self.check_error(UnknownKind, "plain.1", one_round, mixture(BOOK), net, {"a": None})
        self.assertEqual(one_round(mixture(BOOK, BOOK), net, {"a": None}), {"a": None})

    def test_unknown_cells(self):
        for wrong in [value for value in ANY_VALUES if value != "a"] + ["x", ["a"], ("a",)]:
            for state in (empty_state(NET), {}, {"a": 5}):
                self.check_error(UnknownCell, wrong, look, TABLES, NET, wrong, state)

    def test_states(self):
        for wrong in NO_HOLDINGS:
            for at, cell in enumerate("abcd"):
                state = {**empty_state(NET), cell: wrong, **{later: wrong for later in "abcd"[at:]}}
                self.check_all(InvalidState, cell, NET, state, "d")
                self.check_all(InvalidState, cell, NET, {**empty_state(NET), cell: wrong}, "d", 301)
                missing = {name: None if name < cell else wrong for name in "abcd" if name != cell}
                self.check_all(InvalidState, cell, NET, missing, "d", -1)
        self.check_all(InvalidState, "a", NET, {})
        self.check_all(InvalidState, "c", NET, {"d": 5, "b": None, "a": None})

    def test_states_of_fields_with_other_options(self):
        tables = tables_of(Rulebook.read(ROADS))
        net = Network.read("cell a town\n")
        for wrong in (("0",), ("a", "0"), ("0", "a", "b"), ("0", "c"), ["0", "a"], ("0", ["a"])):
            self.check_error(InvalidState, "a", one_round, tables, net, {"a": wrong})
        self.assertEqual(one_round(tables, net, {"a": ("0", "a")}), {"a": None})

    def test_counts(self):
        for wrong in NO_COUNTS:
            self.check_error(InvalidCount, wrong, rounds_on, TABLES, NET, empty_state(NET), wrong)
            self.check_error(InvalidCount, wrong, rounds_on, TABLES, Network(), {}, wrong)


if __name__ == "__main__":
    unittest.main()
