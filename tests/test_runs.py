"""Tests of bestheard.runs: moments, looks, phases and clones."""

import copy
import inspect

from anew import RunAnew
from bestheard.errors import InvalidCount, InvalidLook, InvalidState, UnknownCell, UnknownKind, UnknownMoment, UnknownTie
from bestheard.networks import Network
from bestheard.rounds import empty_state, rounds_on
from bestheard.rulebooks import Rulebook
from bestheard.runs import Run
from bestheard.tables import mixture, tables_of
from samples import AGES, ANY_VALUES, ECHO, ROADS, ErrorCase, Maker

TABLES = tables_of(Rulebook.read(AGES))
# A root, two cells that hear it, the latter also the former, twice, and itself.
NET = Network.read("cell a root\ncell b plain\ncell c plain\ntie link a b\ntie link b c\ntie link a c\ntie link c c\n")
ECHOES = tables_of(Rulebook.read(ECHO))
PAIR = Network.read("cell a plain\ncell b plain\ntie link a b\ntie link b a\n")
NO_NUMBERS = [value for value in ANY_VALUES if not isinstance(value, int) or isinstance(value, bool)]


def held(*options):
    """Return the state of NET or PAIR in which the cells hold these options."""
    return {cell: None if option is None else (option,) for cell, option in zip("abc", options)}


def seen(run):
    """Return all that can be seen of a run, copied."""
    states = [dict(run.state_at(at)) for at in range(len(run))]
    return (len(run), run.moment, run.phases, repr(run), dict(run.now()), states)


class RunCase(ErrorCase):
    def check_same_after(self, error, given, run, call, *arguments):
        """Check that a call raises this error, and that it changes nothing."""
        before = seen(run)
        self.check_error(error, given, call, *arguments)
        self.assertEqual(seen(run), before)


class PastTest(RunCase):
    def test_pasts_of_one_to_three_states(self):
        states = [held("0", "1", "2"), held(None, None, "0"), held("2", "2", "2")]
        for many in (1, 2, 3):
            run = Run(TABLES, NET, states[:many])
            self.assertEqual([len(run), run.moment, run.phases], [many, many - 1, 0])
            self.assertEqual([run.state_at(at) for at in range(many)], states[:many])
            self.assertEqual(run.now(), states[many - 1])
        self.assertEqual(seen(Run(TABLES, NET, tuple(states))), seen(run))
        self.assertEqual(seen(Run(past=states, network=NET, tables=TABLES)), seen(run))

    def test_keys_that_are_no_cells_are_left_out(self):
        state = {"x": ("0",), 7: [1], None: 5, **dict(reversed(list(held("0", None, "1").items())))}
        run = Run(TABLES, NET, [state])
        self.assertEqual(list(run.now().items()), list(held("0", None, "1").items()))
        run.step({"b": [1]})
        self.assertEqual(list(run.now()), ["a", "b", "c"])

    def test_what_is_passed_stays_and_what_is_returned_is_new(self):
        past, net, looks = [held("0", "1", None), held(None, None, "2")], NET.clone(), {"b": [2], "c": [1, 2, 1]}
        before = copy.deepcopy((past, looks)), net.text()
        run = Run(TABLES, net, past)
        run.step(looks)
        self.assertEqual(((past, looks), net.text()), before)
        found = seen(run)
        past[1]["a"] = ("2",)
        past.clear()
        looks["b"].append(5)
        net.drop("a")
        for state in (run.now(), run.state_at(0), run.state_at(2)):
            state["a"] = 5
            state["x"] = 5
            del state["b"]
        self.assertEqual(seen(run), found)
        run.step_all()
        self.assertEqual(run.now(), held("0", None, "2"))

    def test_errors_in_their_order(self):
        net = Network.read("cell a root\ncell b other\ncell c far\ntie road a b\n")
        for past in ([], [{}], [empty_state(net)], [{"a": 5}]):
            self.check_error(UnknownKind, "other", Run, TABLES, net, past)
        net = Network.read("cell a root\ncell b plain\ntie link a b\ntie road a b\ntie path a b\n")
        for past in ([], [{}], [empty_state(net)], [{"a": 5}]):
            self.check_error(UnknownTie, "road", Run, TABLES, net, past)
        good = held("0", None, "1")
        for past, cell in (([{}], "a"), ([good, {"a": None, "c": None}], "b"), ([good, good, held("0", "0", "3")], "c"),
                           ([held("0", "5", "7"), {}], "b"), ([{**good, "c": ["0"]}, held("7", "7", "7")], "c")):
            self.check_error(InvalidState, cell, Run, TABLES, NET, past)
        for wrong in [value for value in ANY_VALUES if value is not None and value != ("0",)]:
            self.check_error(InvalidState, "b", Run, TABLES, NET, [good, {**good, "b": wrong}])
        for past in ([], ()):
            self.check_error(InvalidCount, 0, Run, TABLES, NET, past)
            self.check_error(InvalidCount, 0, Run, TABLES, Network(), past)

    def test_the_interface(self):
        for name in "__init__ moment phases state_at now __len__ step step_all clone __repr__".split():
            self.assertIn(name, vars(Run))
        for name in ("moment", "phases"):
            self.assertIsInstance(vars(Run)[name], property)
        self.assertEqual(str(inspect.signature(Run.step_all)), "(self, *, ago=1)")
        self.assertEqual(Run.__module__, "bestheard.runs")


class StepsTest(RunCase):
    def test_none_some_and_all_look(self):
        run = Run(TABLES, NET, [held(None, "0", "0")])
        self.assertIsNone(run.step({}))
        self.assertEqual([run.now(), run.moment], [held(None, "0", "0"), 1])
        run.step({"a": []})
        self.assertEqual(run.now(), held("0", "0", "0"))
        run.step({"c": (1, 1, 1), "b": [1]})
        self.assertEqual(run.now(), held("0", "1", "1"))
        self.assertIsNone(run.step_all())
        self.assertEqual(run.now(), held("0", "1", "1"))
        self.assertEqual([run.state_at(at) for at in range(len(run))],
                         [held(None, "0", "0")] * 2 + [held("0", "0", "0")] + [held("0", "1", "1")] * 2)

    def test_cells_that_look_see_what_was_held_ahead_of_the_step(self):
        run = Run(ECHOES, PAIR, [held("0", None)])
        for at in range(1, 6):
            run.step({"b": [1], "a": [1]})
            self.assertEqual(run.now(), held("0", None) if at % 2 == 0 else held(None, "0"))

    def test_earlier_moments_along_several_ties(self):
        past = [held("1", "0", None), held("0", None, "1"), held(None, "1", "0")]
        # The best of what the ties b, a and c make of what was held so many moments back.
        for look, option in (([1, 1, 1], "1"), ([1, 1, 2], "2"), ([1, 1, 3], "2"), ([2, 1, 3], None), ([3, 1, 3], "1"),
                             ([2, 2, 3], "1"), ([2, 3, 3], "2"), ([3, 3, 3], "1"), ([2, 1, 2], "2")):
            run = Run(TABLES, NET, past)
            run.step(looks={"c": look})
            self.assertEqual(run.now()["c"], None if option is None else (option,), look)
            self.assertEqual([run.now()["a"], run.now()["b"]], [None, ("1",)])

    def test_step_all(self):
        past = [held("0", None, None), held(None, "0", "0")]
        for ago, expected in ((1, held("0", None, "1")), (2, held("0", "1", "1"))):
            run = Run(TABLES, NET, past)
            run.step_all(ago=ago)
            self.assertEqual(run.now(), expected)
        with self.assertRaises(TypeError):
            run.step_all(1)
        run = Run(TABLES, Network.read("cell a root\ncell b plain\n"), [held("1", "1")])
        for wrong in [*NO_NUMBERS, 0, -1, 2, 99]:
            # A cell without ties has no use for the number.
            run.step_all(ago=wrong)
        self.assertEqual(run.now(), held("0", None))

    def test_steps_are_rounds_if_all_look_at_the_present(self):
        book = Rulebook.read(ROADS)
        for seed in range(20):
            maker = Maker(seed)
            net = maker.network(book.kind_names(), book.tie_names())
            state = maker.state(net, book.order("town"))
            run = Run(tables_of(book), net, [state])
            for many in range(1, 6):
                run.step_all()
                self.assertEqual(run.now(), rounds_on(tables_of(book), net, state, many))
                self.assertEqual(run.phases, many)

    def test_mixtures(self):
        tables = mixture(Rulebook.read(AGES), Rulebook.read(AGES.replace("when age=2", "when age>0")))
        net = Network.read("cell a root.0\ncell b plain.1\ncell c plain.1\ntie link a b\ntie link b c\n")
        run = Run(tables, net, [held("2", "2", "2")])
        for _ in range(3):
            run.step_all()
        self.assertEqual(run.now(), held("0", "1", None))


class MomentsTest(RunCase):
    def test_states_of_all_moments(self):
        run = Run(TABLES, NET, [held(None, None, None)])
        expected = [held(None, None, None)]
        for _ in range(5):
            run.step_all()
            expected.append(rounds_on(TABLES, NET, expected[-1], 1))
        self.assertEqual([run.state_at(at) for at in range(6)], expected)
        self.assertEqual(run.state_at(moment=5), run.now())
        for wrong in [*NO_NUMBERS, -1, -6, 6, 7, 10 ** 29, "0", (0,), [0]]:
            self.check_same_after(UnknownMoment, wrong, run, run.state_at, wrong)

    def test_len_and_repr(self):
        run = Run(TABLES, NET, [held(None, None, None)])
        self.assertEqual([len(run), repr(run)], [1, "Run(3 cells, moment 0)"])
        for _ in range(4):
            run.step({})
        self.assertEqual([len(run), run.moment, repr(run)], [5, 4, "Run(3 cells, moment 4)"])
        self.assertEqual(repr(Run(TABLES, Network(), [{}, {}])), "Run(0 cells, moment 1)")


class LooksTest(RunCase):
    def made(self):
        return Run(TABLES, NET, [held("0", None, None), held("0", None, None), held("0", "1", "1")])

    def test_unknown_cells(self):
        run = self.made()
        for wrong in [None, True, 0, "x", "", "link", ("a",), ("a", "b"), "a ", 10 ** 29]:
            for looks in ({wrong: []}, {wrong: [9]}, {"b": [9], wrong: [1], "y": []}, {"c": 5, wrong: 5}):
                self.check_same_after(UnknownCell, wrong, run, run.step, looks)
        self.check_same_after(UnknownCell, "y", run, run.step, {"c": [], "y": [], "x": [], "b": []})
        self.check_same_after(UnknownCell, "x", run, run.step, {"x": [], "y": []})

    def test_wrong_looks(self):
        run = self.made()
        for wrong in ([], [1, 1], [0], [-1], [4], [10 ** 29], [True], [None], ["1"], [(1,)], [[1]], (0,), (), (1, 1)):
            self.check_same_after(InvalidLook, "b", run, run.step, {"b": wrong})
            self.check_same_after(InvalidLook, "b", run, run.step, {"c": [1, 1, 1], "b": wrong, "a": []})
        for wrong in (None, True, 1, "1", {}, {1: 1}):
            self.check_same_after(InvalidLook, "b", run, run.step, {"b": wrong})
        for wrong in ([1], [1, 1], [1, 1, 1, 1], [1, 1, 0], [4, 1, 1], [1, "1", 1], [1, 1, True]):
            self.check_same_after(InvalidLook, "c", run, run.step, {"c": wrong, "b": [1]})
        for wrong in ([1], [0], [None]):
            self.check_same_after(InvalidLook, "a", run, run.step, {"a": wrong})

    def test_the_first_cell_of_the_network_is_told(self):
        run = self.made()
        self.check_same_after(InvalidLook, "b", run, run.step, {"c": [], "b": []})
        self.check_same_after(InvalidLook, "a", run, run.step, {"c": [], "b": [], "a": [1]})
        self.check_same_after(InvalidLook, "c", run, run.step, {"c": [], "b": [3], "a": []})
        for wrong in [*NO_NUMBERS, 0, -1, 4, 10 ** 29]:
            with self.assertRaises(InvalidLook) as caught:
                run.step_all(ago=wrong)
            self.assertEqual([caught.exception.cell, len(run)], ["b", 3])

    def test_the_number_of_moments_grows(self):
        run = Run(TABLES, NET, [held("0", None, None)])
        for many in range(1, 5):
            self.check_same_after(InvalidLook, "b", run, run.step, {"b": [many + 1]})
            run.clone().step({"b": [many]})
            run.step({})

    def test_never_earlier_than_at_the_last_look(self):
        run = self.made()
        run.step({"b": [1], "c": [2, 3, 1]})
        # Four moments: b saw moment 2; c saw the moments 1, 0 and 2.
        self.check_same_after(InvalidLook, "b", run, run.step, {"b": [3]})
        self.check_same_after(InvalidLook, "b", run, run.step, {"b": [4], "c": [4, 4, 4]})
        for look in ([4, 4, 2], [3, 4, 3], [1, 1, 3], [4, 1, 1]):
            self.check_same_after(InvalidLook, "c", run, run.step, {"c": look, "b": [2]})
        run.clone().step({"c": [3, 4, 2], "b": [2]})
        run.step({"c": [1, 4, 2]})
        # Five moments: c saw the moments 3, 0 and 2; b still saw moment 2.
        self.check_same_after(InvalidLook, "c", run, run.step, {"c": [3, 5, 3]})
        self.check_same_after(InvalidLook, "b", run, run.step, {"b": [4]})
        run.step({"c": [2, 5, 3], "b": [3]})
        with self.assertRaises(InvalidLook):
            run.step_all(ago=6)

    def test_two_ties_from_one_cell_are_looked_along_each_for_itself(self):
        book = Rulebook.read("field v x y\ntie one\nwhen always do keep\ntie two\nwhen always do keep\ncell k v+\n")
        net = Network.read("cell a k\ncell b k\ntie one a b\ntie two a b\n")
        past = [{"a": ("x",), "b": None}, {"a": ("y",), "b": None}]
        run = Run(tables_of(book), net, past)
        run.step({"b": [1, 2]})
        self.assertEqual(run.now()["b"], ("x",))
        self.check_same_after(InvalidLook, "b", run, run.step, {"b": [3, 1]})
        run.step({"b": [2, 1]})
        self.assertEqual(run.now()["b"], ("y",))
        self.check_same_after(InvalidLook, "b", run, run.step, {"b": [1, 4]})

    def test_a_run_goes_on_as_if_wrong_looks_had_not_been(self):
        for seed in range(30):
            maker = Maker(seed)
            one, other = self.made(), self.made()
            for _ in range(8):
                wrong = {"c": [1, 1, 1], "b": [1], maker.choice("abx"): maker.choice([[9], [0], None, [1, 1]])}
                with self.assertRaises((InvalidLook, UnknownCell)):
                    one.step(wrong)
                look = {"c": [1, 2, maker.number(1, 2)]} if maker.number(0, 1) else {"b": [2], "a": []}
                self.assertEqual(self.result(one, look), self.result(other, look))
                self.assertEqual(seen(one), seen(other))

    @staticmethod
    def result(run, looks):
        try:
            run.step(looks)
        except InvalidLook as error:
            return error.cell
        return None


class PhasesTest(RunCase):
    def test_a_phase_ends_when_all_have_looked(self):
        run = Run(TABLES, NET, [empty_state(NET)])
        for looks, phases in (({"a": []}, 0), ({"b": [1]}, 0), ({"a": [], "b": [1]}, 0), ({"c": [1, 1, 1]}, 1),
                              ({"c": [1, 1, 1]}, 1), ({"b": [1]}, 1), ({}, 1), ({"a": []}, 2), ({"a": []}, 2)):
            run.step(looks)
            self.assertEqual(run.phases, phases)
        run.step_all()
        self.assertEqual(run.phases, 3)
        run.step_all()
        self.assertEqual(run.phases, 4)

    def test_looks_at_moments_ahead_of_the_phase_do_not_count(self):
        run = Run(TABLES, NET, [empty_state(NET)] * 3)
        run.step_all(ago=3)
        self.assertEqual(run.phases, 0)
        # a has looked rightly, for it has no ties; the phase begins at moment 2.
        run.step({"b": [2], "c": [2, 2, 3]})
        self.assertEqual(run.phases, 0)
        run.step({"c": [3, 1, 2]})
        self.assertEqual(run.phases, 1)
        # The second phase begins at moment 5.
        run.step({"a": [], "b": [2], "c": [1, 2, 1]})
        self.assertEqual(run.phases, 1)
        run.step({"b": [1], "c": [1, 1, 1]})
        self.assertEqual(run.phases, 2)
        run.step_all(ago=2)
        self.assertEqual(run.phases, 2)
        run.step_all(ago=2)
        self.assertEqual(run.phases, 3)

    def test_networks_without_cells(self):
        run = Run(TABLES, Network(), [{}, {"x": 5}])
        for many in range(1, 5):
            (run.step_all if many % 2 else run.step)(**({} if many % 2 else {"looks": {}}))
            self.assertEqual([run.phases, run.moment, run.now()], [many, many + 1, {}])

    def test_cells_without_ties_and_a_tie_to_itself(self):
        net = Network.read("cell a root\ncell b plain\ntie link b b\n")
        run = Run(TABLES, net, [held(None, "0")])
        for looks, phases, option in (({"b": [1]}, 0, "1"), ({"b": [1]}, 0, "2"), ({"b": [2]}, 0, "2"),
                                      ({"a": []}, 1, "2"), ({"a": []}, 1, "2"), ({"b": [3]}, 1, None),
                                      ({"b": [1]}, 2, None)):
            run.step(looks)
            self.assertEqual([run.phases, run.now()["b"]], [phases, None if option is None else (option,)], looks)

    def test_made_ones(self):
        for seed in range(120):
            maker = Maker(seed)
            book = maker.book()
            tables = tables_of(book)
            net = maker.network(book.kind_names(), book.tie_names(), cells=4, many=7)
            past = [maker.state(net, [None, *book.all_values()]) for _ in range(maker.number(1, 3))]
            run, other = Run(tables, net, past), RunAnew(tables, net, past)
            for _ in range(14):
                looks = {cell: [maker.number(1, maker.choice([1, 2, len(run)])) for _ in net.ties_into(cell)]
                         for cell in net.cells() if maker.number(0, 2)}
                wrong = [cell for cell in net.cells() if cell in looks and not other.is_right(cell, looks[cell])]
                if wrong:
                    self.check_same_after(InvalidLook, wrong[0], run, run.step, looks)
                    looks = {cell: look for cell, look in looks.items() if cell not in wrong}
                run.step(looks)
                other.step(looks)
                self.assertEqual([run.now(), run.phases, run.moment],
                                 [other.states[-1], other.phases(), len(other.states) - 1])
            self.assertEqual([run.state_at(at) for at in range(len(run))], other.states)


class ClonesTest(RunCase):
    def test_each_goes_on_with_looks_of_its_own(self):
        run = Run(TABLES, NET, [held("0", None, None), held("0", "2", "1")])
        run.step({"a": [], "c": [2, 1, 1]})
        other = run.clone()
        self.assertEqual(seen(other), seen(run))
        before = seen(other)
        run.step({"b": [1], "c": [1, 1, 1]})
        self.assertEqual(seen(other), before)
        self.assertEqual([run.phases, other.phases, len(run), len(other)], [1, 0, 4, 3])
        self.check_same_after(InvalidLook, "c", run, run.step, {"c": [4, 1, 1]})
        other.step({"c": [3, 2, 1]})
        self.assertEqual([other.phases, other.now(), run.now()], [0, held("0", "2", "1"), held("0", "1", "1")])
        other.step({"b": [1]})
        self.assertEqual([other.phases, other.now()], [0, held("0", "1", "1")])
        other.step({"c": [4, 1, 1]})
        self.assertEqual([other.phases, run.phases, len(other), len(run)], [1, 1, 6, 4])

    def test_a_clone_keeps_what_was_seen_and_done(self):
        run = Run(TABLES, NET, [empty_state(NET)] * 2)
        run.step_all()
        run.step({"a": [], "b": [1]})
        other = run.clone()
        self.check_same_after(InvalidLook, "b", other, other.step, {"b": [3]})
        other.step({"c": [1, 1, 2]})
        self.assertEqual([other.phases, run.phases], [2, 1])
        self.assertEqual(other.state_at(1), empty_state(NET))


class PhasesAndDelayTest(RunCase):
    def test_after_the_delay_each_run_is_in_the_stand(self):
        # The delay of AGES is 3.
        for seed in range(40):
            maker = Maker(seed)
            net = maker.network(["plain", "root"], ["link"])
            run = Run(TABLES, net, [maker.state(net, TABLES.order("plain")) for _ in range(2)])
            while run.phases < 3:
                run.step({cell: [1 for _ in net.ties_into(cell)] for cell in net.cells() if maker.number(0, 1)})
            self.assertEqual(run.now(), rounds_on(TABLES, net, empty_state(net), 50))
