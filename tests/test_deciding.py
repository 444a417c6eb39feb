"""Tests of bestheard.deciding: whether tables settle, with which delay, and what the stand of a network is."""

import unittest

from anew import all_none, next_anew, rounds_anew, stands_anew, uneven_anew
from bestheard.certificates import Settles, Splits
from bestheard.deciding import decide, delay_of, late_pair, settles, stand_of
from bestheard.errors import UnknownKind, UnknownTie, Unsettled
from bestheard.limits import limit_rounds
from bestheard.networks import Network
from bestheard.rounds import empty_state, is_stand, one_round, rounds_on
from bestheard.rulebooks import Rulebook
from bestheard.runs import Run
from bestheard.tables import mixture, tables_of
from bestheard.words import cell_names
from samples import AGES, DEEP, ECHO, LEVELS, ROADS, WIDE, ErrorCase, Maker

# Nothing that is offered is ever taken.
DEAF = "field v a b\ntie one\nwhen always do keep\ncell deaf\nwhen always do drop\n"
# The only uneven pairs that are possible are those of two kinds that swap a and b.
SWAP = "field v a b\ntie one\nwhen v=a do v:b\nwhen always do v:a\ncell k v+\nborn b\ncell l v-\nborn a\n"


def tables(text):
    return tables_of(Rulebook.read(text))


def made_tables(seed):
    """Return the tables of a rulebook, or of a mixture of two or three, that settle or do not."""
    maker = Maker(seed)
    fields, ties, kinds = maker.parts()
    books = [Rulebook(fields, ties=[(name, maker.program(fields)) for name, _ in ties],
                      kinds=[maker.kind(kind[0], fields) for kind in kinds]) for _ in range(maker.choice([1, 1, 2, 3]))]
    return tables_of(books[0]) if len(books) == 1 else mixture(*books)


class DecideTest(unittest.TestCase):
    def check_settles(self, made, delay):
        found = decide(made)
        self.assertIsInstance(found, Settles)
        self.assertIs(found.holds(), True)
        self.assertIs(bool(found), True)
        self.assertTrue(found.tables == made)
        self.assertEqual([found.told(), found.delay, delay_of(made)], ["settles", delay, delay])
        self.assertEqual(found.rounds(), limit_rounds(made)[:delay + 1])
        self.assertIs(settles(made), True)
        # One round less leaves an uneven pair possible.
        self.assertIs(Settles(made, found.rounds()[:-1]).holds(), False)

    def check_splits(self, made):
        found = decide(made)
        self.assertIsInstance(found, Splits)
        self.assertIs(found.holds(), True)
        self.assertIs(bool(found), False)
        self.assertTrue(found.tables == made)
        self.assertEqual(found.told(), "splits")
        web = found.web()
        self.assertEqual(sorted(web.cells(), key=lambda name: (len(name), name)), cell_names(len(web)))
        self.assertTrue(all(len(web.ties_into(cell)) <= 2 for cell in web.cells()))
        self.assertIs(is_stand(made, web, found.first()), True)
        self.assertIs(is_stand(made, web, found.second()), True)
        self.assertEqual(sorted(found.first()), sorted(web.cells()))
        self.assertTrue(any(found.first()[cell] != found.second()[cell] for cell in web.cells()))
        self.assertIs(settles(made), False)
        self.check_unsettled(made)
        run = found.beating()
        for at in range(2, 7):
            run.step_all(ago=2)
            self.assertEqual(run.now(), found.second() if at % 2 == 0 else found.first())

    def check_unsettled(self, made):
        for call, more in ((delay_of, []), (late_pair, []), (stand_of, [Network()])):
            with self.assertRaises(Unsettled):
                call(made, *more)

    def check(self, made):
        """Check what is decided against the sentences of the document."""
        rounds = limit_rounds(made)
        delays = [number for number, limits in enumerate(rounds) if not uneven_anew(made, limits)]
        if delays:
            self.check_settles(made, delays[0])
        else:
            self.check_splits(made)

    def test_the_example(self):
        self.check_settles(tables("field age 0 1\ntie link\nwhen age=0 do age+\ncell plain age+\n"), 2)
        self.check_splits(tables(ECHO))

    def test_small_and_large_delays(self):
        self.check_settles(tables(DEAF), 1)
        self.check_settles(tables(AGES), 3)
        self.check_settles(tables(LEVELS), 3)
        self.check_settles(tables(WIDE), 24)
        for options in range(2, 7):
            names = " ".join("012345"[:options])
            text = f"field v {names}\ntie t\nwhen v={options - 1} do drop\nwhen always do v+\ncell k v+\n"
            self.check_settles(tables(text), options)

    def test_such_that_do_not(self):
        for text in (ECHO, ROADS, AGES.replace("when age=2 do drop\n", "")):
            self.check_splits(tables(text))

    def test_births(self):
        text = "field v a b\ntie one\nwhen always do keep\ncell k v+\nborn a\n"
        self.check_settles(tables(text), 1)
        self.check_splits(tables(text.replace("born a", "born b")))
        self.check(tables(SWAP))

    def test_mixtures(self):
        one, other = Rulebook.read(AGES), Rulebook.read(AGES.replace("when age=2 do drop\n", ""))
        self.check_settles(mixture(one), 3)
        self.check_settles(mixture(one, one, one), 3)
        self.check_splits(mixture(one, other))
        self.check_splits(mixture(other, one, one))
        # Each of both settles: the one passes on a as b and nothing else, the other one b as a.
        text = "field v a b\ntie t\nwhen v=a do v:b\ncell k\n"
        one, other = Rulebook.read(text), Rulebook.read(text.replace("v=a do v:b", "v=b do v:a"))
        self.check_settles(tables_of(one), 2)
        self.check_settles(tables_of(other), 2)
        self.check_splits(mixture(one, other))

    def test_24_values(self):
        wide = Rulebook.read(WIDE)
        self.check_settles(mixture(wide, wide, wide), 24)
        self.check_splits(tables(WIDE.replace("when always do drop\ntie", "when always do keep\ntie")))

    def test_made_ones(self):
        for seed in range(250):
            self.check(made_tables(seed))

    def test_by_the_limits_told_anew(self):
        for seed in range(25):
            made = tables_of(Maker(seed).book())
            if made.size <= 7:
                rounds = rounds_anew(all_none(made), lambda limits: next_anew(made, limits))
                self.assertIs(settles(made), not uneven_anew(made, rounds[-1]))

    def test_what_settles_has_one_stand_on_small_networks(self):
        seen = 0
        for seed in range(200):
            maker = Maker(seed)
            made = tables_of(maker.book())
            if made.size > 5 or not settles(made):
                continue
            seen += 1
            net = maker.network(made.kinds(), made.ties(), cells=3, many=6)
            self.assertEqual(stands_anew(made, net), [stand_of(made, net)])
        self.assertGreater(seen, 20)

    def test_arguments_by_name_and_answers_that_are_changed(self):
        made = tables(AGES)
        found = decide(tables=made)
        found.rounds().clear()
        found.rounds()[0].clear()
        self.assertEqual([settles(tables=made), delay_of(tables=made), found.holds()], [True, 3, True])
        echo = tables(ECHO)
        found = decide(echo)
        before = [found.web(), found.first(), found.second()]
        found.web().drop("a")
        found.first().clear()
        self.assertEqual([found.web(), found.first(), found.second()], before)
        again = decide(echo)
        self.assertEqual([again.web(), again.first(), again.second()], before)


class LateTest(unittest.TestCase):
    def check(self, made):
        network, one, other, cell = found = late_pair(made)
        self.assertIsInstance(found, tuple)
        self.assertIsInstance(network, Network)
        self.assertIn(cell, network)
        delay = delay_of(made)
        early, late = [rounds_on(made, network, state, delay - 1) for state in (one, other)]
        self.assertNotEqual(early[cell], late[cell])
        stand = stand_of(made, network)
        self.assertEqual([one_round(made, network, early), one_round(made, network, late)], [stand, stand])

    def test_they_differ_one_round_ahead_of_the_delay(self):
        for text in (AGES, LEVELS, DEAF, WIDE):
            self.check(tables(text))
        self.check(mixture(Rulebook.read(AGES), Rulebook.read(AGES)))
        self.assertEqual(delay_of(tables(DEAF)), 1)

    def test_made_ones(self):
        delays = []
        for seed in range(250):
            made = made_tables(seed)
            if settles(made):
                delays.append(delay_of(made))
                self.check(made)
        self.assertGreater(max(delays), 2)
        self.assertGreater(len(delays), 50)

    def test_equal_calls(self):
        made = tables(AGES)
        first, second = late_pair(tables=made), late_pair(made)
        self.assertEqual(first, second)
        first[0].add_cell("zzz", "plain")
        first[1].clear()
        self.assertEqual(late_pair(made), second)


class StandTest(ErrorCase):
    def test_it_is_the_only_stand(self):
        made = tables(AGES)
        net = Network.read("cell a root\ncell b plain\ncell c plain\ncell d plain\ncell e plain\ntie link a b\n"
                           "tie link b c\ntie link c d\ntie link e e\ntie link c b\n")
        expected = {"a": ("0",), "b": ("1",), "c": ("2",), "d": None, "e": None}
        self.assertEqual(stand_of(made, net), expected)
        self.assertEqual(list(stand_of(network=net, tables=made).items()), list(expected.items()))
        self.assertEqual(stands_anew(made, net), [expected])
        self.assertEqual(stand_of(made, Network()), {})

    def test_every_run_comes_to_rest_there_after_the_delay(self):
        for seed in range(150):
            maker = Maker(seed)
            made = made_tables(seed)
            if not settles(made):
                continue
            net = maker.network(made.kinds(), made.ties())
            stand = stand_of(made, net)
            self.assertIs(is_stand(made, net, stand), True)
            state = maker.state(net, made.order(made.kinds()[0]))
            self.assertEqual(rounds_on(made, net, state, delay_of(made)), stand)
            run = Run(made, net, [state, empty_state(net)])
            while run.phases < delay_of(made):
                run.step({cell: [1 for _ in net.ties_into(cell)] for cell in net.cells() if maker.number(0, 2)})
            self.assertEqual(run.now(), stand)
            run.step_all(ago=1)
            self.assertEqual(run.now(), stand)

    def test_runs_with_delays_rest_after_so_many_phases(self):
        for seed in range(60):
            maker = Maker(seed)
            made = tables([AGES, LEVELS, DEEP][seed % 3])
            delay = delay_of(made)
            net = maker.network(made.kinds(), made.ties(), cells=4, many=8)
            run = Run(made, net, [maker.state(net, made.order("plain")) for _ in range(3)])
            seen = {}
            while run.phases < delay:
                looks = {}
                for cell in net.cells():
                    if maker.number(0, 3):
                        # Not more than four moments back, and never ahead of what was seen last.
                        late = [max(seen.get(tie, 0), len(run) - maker.number(1, 4), 0) for tie in net.ties_into(cell)]
                        seen.update(zip(net.ties_into(cell), late))
                        looks[cell] = [len(run) - moment for moment in late]
                run.step(looks)
            self.assertEqual(run.now(), stand_of(made, net))

    def test_what_is_passed_stays(self):
        made = tables(AGES)
        net = Network.read("cell a root\ncell b plain\ntie link a b\n")
        before = net.text()
        stand_of(made, net).clear()
        self.assertEqual([net.text(), stand_of(made, net)], [before, {"a": ("0",), "b": ("1",)}])

    def test_errors_in_their_order(self):
        for text in (AGES, ECHO):
            made = tables(text)
            net = Network.read("cell a plain\ncell b other\ncell c far\ncell d plain.0\ntie road a b\ntie path a b\n")
            self.check_error(UnknownKind, "other", stand_of, made, net)
            net.set_kind("b", "plain")
            net.set_kind("c", "plain")
            self.check_error(UnknownKind, "plain.0", stand_of, made, net)
            net.set_kind("d", "plain")
            self.check_error(UnknownTie, "road", stand_of, made, net)
        net.cut("road", "a", "b")
        self.check_error(UnknownTie, "path", stand_of, made, net)
        net.cut("path", "a", "b")
        with self.assertRaises(Unsettled) as caught:
            stand_of(made, net)
        self.assertEqual(vars(caught.exception), {"code": "Unsettled"})


if __name__ == "__main__":
    unittest.main()
