"""Tests of bestheard.certificates: certificates with a network, Splits, Part, Harmed, Swayed and Hidden."""

import unittest

from anew import looked_anew, stands_anew
from bestheard.certificates import Harmed, Hidden, Part, Splits, Swayed
from bestheard.networks import Network
from bestheard.rulebooks import Rulebook
from bestheard.runs import Run
from bestheard.tables import mixture
from certificates_case import ODD_VALUES, CertificateCase, tables
from samples import AGES, ECHO, LEVELS

SHADES = "field lv 0 1\nfield v a b\ntie link\nwhen lv=0 do lv+\ncell plain lv+\ncell root\nborn 0 a\n"


def state(words):
    """Return the state that words like a=0b and b=- tell, each option a character."""
    pairs = [word.split("=") for word in words.split(" ")]
    return {cell: None if options == "-" else tuple(options) for cell, options in pairs}


class StatesCase(CertificateCase):
    """A test of a class with states."""

    def check_states(self):
        for name in ("first", "second", "state"):
            if name not in self.given:
                continue
            good = self.given[name]
            self.check(True, **{name: {**good, "strange": 5, None: [1], 7: None}})
            self.check(True, **{name: dict(reversed(list(good.items())))})
            for cell, holding in good.items():
                less = {other: held for other, held in good.items() if other != cell}
                self.check(False, **{name: less})
                for odd in [*ODD_VALUES, ("9",), ["0"], ("0", "c")]:
                    if odd is not None and odd != ("0",) or isinstance(odd, bool):
                        self.check(False, **{name: {**good, cell: odd}})
                if holding is not None:
                    self.check(False, **{name: {**good, cell: list(holding)}})

    def check_spots(self, right):
        for spot in [*self.given["web"].cells(), "strange", "", "link", None, ["b"], ("b",), 0]:
            self.check(spot in right, spot=spot)


class SplitsTest(StatesCase):
    shape = Splits
    word = "splits"
    answer = False
    given = {"tables": tables(ECHO), "web": Network.read("cell a plain\ncell b plain\ntie link a b\ntie link b a\n"),
             "first": state("a=0 b=0"), "second": state("a=- b=-")}

    def test_what_all_classes_have(self):
        self.check_all()

    def test_states(self):
        self.check_states()

    def test_both_must_be_stands_and_differ(self):
        for first in ("0", "1", "-"):
            for second in ("0", "1", "-"):
                changes = {"first": state(f"a={first} b={first}"), "second": state(f"a={second} b={second}")}
                self.check(first != second, **changes)
        for no_stand in ("a=0 b=1", "a=1 b=0", "a=- b=0", "a=1 b=-"):
            self.check(False, first=state(no_stand))
            self.check(False, second=state(no_stand))

    def test_they_must_differ_at_a_cell_of_the_network(self):
        self.check(False, second={**self.given["first"], "c": ("1",)})
        self.check(False, web=Network(), first={}, second={})
        self.check(False, web=Network())

    def test_one_cell_that_differs_is_enough(self):
        web = Network.read("cell a plain\ncell b plain\ntie link a a\n")
        self.check(True, web=web, first=state("a=0 b=-"), second=state("a=1 b=-"))
        self.check(False, web=web, first=state("a=0 b=-"), second=state("a=1 b=0"))

    def test_without_the_network_of_the_tables(self):
        self.check(False, tables=tables(ECHO, ("plain", "plan")))
        self.check(False, tables=tables(ECHO, ("link", "road")))
        self.check(False, tables=mixture(Rulebook.read(ECHO)))

    def test_beating(self):
        made = self.made()
        for _ in range(2):
            run = made.beating()
            self.assertIsInstance(run, Run)
            self.assertEqual([len(run), run.state_at(0), run.now()], [2, self.given["second"], self.given["first"]])
            for at in range(2, 9):
                run.step_all(ago=2)
                self.assertEqual(run.now(), self.given["second" if at % 2 == 0 else "first"])
        run.step_all()
        self.assertEqual(len(made.beating()), 2)


class PartTest(StatesCase):
    shape = Part
    word = "part"
    answer = False
    given = {"tables": tables(SHADES), "others": tables(SHADES, ("born 0 a", "born 0 b")), "seen": [1],
             "web": Network.read("cell a root\ncell b plain\ncell c plain\ntie link a b\n"),
             "first": state("a=0a b=1a c=-"), "second": state("a=0b b=1b c=-"), "spot": "b"}
    fitting = {"seen": [None], "spot": ["a"]}

    def test_what_all_classes_have(self):
        self.check_all()

    def test_states(self):
        self.check_states()

    def test_spots(self):
        self.check_spots(["a", "b"])

    def test_seen(self):
        for seen in ([1], (1,), [1, 1], [0, 1], [1, 0], None):
            self.check(True, seen=seen)
        for seen in ([0], [], (), [0, 0], [2], [1, 2], [-1], [True], [None], ["v"], [[1]], "1", 1, {1: 1}):
            self.check(False, seen=seen)

    def test_just_one_that_is_nothing_is_seen_by_no_fields(self):
        others = tables(SHADES, ("lv=0 do lv+", "lv=0 and v=b do lv+"))
        changes = {"others": others, "second": state("a=0a b=- c=-")}
        for seen in ([], [0], [1], [0, 1], None):
            self.check(True, seen=seen, **changes)
            self.check(False, seen=seen, spot="a", **changes)
            self.check(False, seen=seen, spot="c", **changes)
            self.check(True, seen=seen, tables=others, others=self.given["tables"], first=changes["second"],
                       second=self.given["first"])

    def test_positions_must_be_those_of_both_sides(self):
        less = tables("field lv 0 1\ntie link\nwhen lv=0 do lv+\ncell plain lv+\ncell root\nborn 0\n")
        changes = {"others": less, "second": state("a=0 b=1 c=-")}
        self.check(False, seen=[1], **changes)
        self.check(False, seen=[1], tables=less, others=self.given["tables"], first=changes["second"],
                   second=self.given["first"])

    def test_each_state_must_be_a_stand_of_its_own_side(self):
        self.check(False, first=self.given["second"], second=self.given["first"])
        self.check(False, first=self.given["second"])
        self.check(False, second=self.given["first"])
        self.check(False, tables=self.given["others"])
        self.check(False, others=self.given["tables"])
        self.check(False, first=state("a=0a b=0b c=-"))
        self.check(False, first=state("a=0a b=1a c=0a"))
        self.check(False, second=state("a=0b b=- c=-"))

    def test_both_sides_must_know_the_network(self):
        for pair in (("plain", "plan"), ("root", "rot"), ("tie link", "tie road")):
            self.check(False, tables=tables(SHADES, pair))
            self.check(False, others=tables(SHADES, ("born 0 a", "born 0 b"), pair))


class HarmedTest(StatesCase):
    shape = Harmed
    word = "harmed"
    answer = False
    given = {"tables": tables(LEVELS),
             "web": Network.read("cell g good\ncell b bad\ncell m plain\ncell e plain\n"
                                 "tie link b m\ntie link m e\ntie link g m\n"),
             "extra": ("link", "g", "m"), "first": state("g=0a b=0b m=1a e=-"),
             "second": state("g=0a b=0b m=1b e=2b"), "spot": "e"}

    def test_what_all_classes_have(self):
        self.check_all()

    def test_states(self):
        self.check_states()

    def test_spots(self):
        # m holds better than it did, g and b the same.
        self.check_spots(["e"])

    def test_extra(self):
        for extra in (("link", "b", "m"), ("link", "m", "e"), ("link", "g", "e"), ("link", "m", "g"), ("road", "g", "m"),
                      ["link", "g", "m"], ("link", "g"), ("link", "g", "m", "m"), "link g m", None, (["link"], "g", "m")):
            self.check(False, extra=extra)

    def test_the_states_must_be_stands_with_and_without_the_tie(self):
        self.check(False, first=self.given["second"])
        self.check(False, second=self.given["first"])
        self.check(False, first=self.given["second"], second=self.given["first"])
        self.check(False, first=state("g=0a b=0b m=1a e=2b"))
        self.check(False, second=state("g=0a b=0b m=1b e=1b"))
        self.check(False, first=state("g=0a b=- m=1a e=-"))

    def test_the_network_is_the_one_with_the_tie(self):
        less = self.given["web"].clone()
        less.cut("link", "g", "m")
        self.check(False, web=less)
        more = self.given["web"].clone()
        more.add_tie("link", "e", "e")
        self.check(True, web=more)
        more.add_tie("link", "g", "e")
        self.check(False, web=more)

    def test_worse_not_better(self):
        web = Network.read("cell g good\ncell m plain\ntie link g m\n")
        self.check(False, web=web, first=state("g=0a m=1a"), second=state("g=0a m=-"), spot="m")


class SwayedTest(StatesCase):
    shape = Swayed
    word = "swayed"
    answer = False
    given = {"tables": tables(AGES), "kind": "plain", "lies": ["link"],
             "web": Network.read("cell a root\ncell b plain\ncell c plain\ncell d plain\n"
                                 "tie link a b\ntie link d b\ntie link b c\n"),
             "liars": ["a"], "first": state("a=0 b=1 c=2 d=-"), "second": state("a=1 b=2 c=- d=-"), "spot": "b"}
    fitting = {"kind": ["plain"], "liars": [["a"]]}

    def test_what_all_classes_have(self):
        self.check_all()

    def test_states(self):
        for name in ("first", "second"):
            good = self.given[name]
            for cell in good:
                less = {other: held for other, held in good.items() if other != cell}
                self.check(False, **{name: less})
                for odd in [("9",), ["0"], "0", 5, True, ("0", "0")]:
                    self.check(False, **{name: {**good, cell: odd}})
            self.check(True, **{name: {**good, "strange": 5}})

    def test_spots(self):
        # a is a liar, and d holds nothing both times.
        self.check_spots(["b", "c"])
        self.check(False, kind="root", spot="a")

    def test_the_spot_must_be_of_the_kind(self):
        for kind in ("root", "plan", None, ["plain"], "plain.0", ("plain",), 0):
            self.check(False, kind=kind)

    def test_lies(self):
        for lies in (["link"], ("link",), ["link", "link"]):
            self.check(True, lies=lies)
        for lies in ([], (), ["road"], ["link", "road"], "link", None, {"link": True}, [None], [["link"]]):
            self.check(False, lies=lies)

    def test_all_ties_from_liars_must_be_lies(self):
        made = tables(AGES, ("cell plain", "tie road\nwhen always do drop\ncell plain"))
        web = self.given["web"].clone()
        web.add_tie("road", "a", "d")
        self.check(False, tables=made, web=web)
        self.check(False, tables=made, web=web, lies=["road"])
        self.check(True, tables=made, web=web, lies=["road", "link"])
        web.cut("road", "a", "d")
        web.add_tie("road", "b", "d")
        # Ties from the others may have any names, and may be lies as well.
        self.check(True, tables=made, web=web)
        self.check(True, tables=made, web=web, lies=["road", "link"])

    def test_liars(self):
        for liars in (["a"], ("a",), ["a", "a"], ["a", "d"], ["d", "a"]):
            self.check(True, liars=liars)
        for liars in ([], ["d"], ["a", "b"], ["b"], ["a", "strange"], "a", {"a": 1}, None, ["a", None], ["a", ["a"]]):
            self.check(False, liars=liars)
        self.check(True, liars=["a", "b"], spot="c")

    def test_all_others_must_stay_in_both_states(self):
        self.check(False, first=state("a=0 b=1 c=- d=-"))
        self.check(False, first=state("a=0 b=1 c=2 d=2"))
        self.check(False, second=state("a=1 b=2 c=2 d=-"))
        self.check(False, second=state("a=0 b=2 c=- d=-"))
        self.check(True, first=state("a=- b=- c=- d=-"))
        self.check(True, second=state("a=2 b=- c=- d=-"))

    def test_the_spot_must_differ(self):
        self.check(False, second=self.given["first"])
        self.check(False, first=self.given["second"])

    def test_without_liars_two_stands_sway(self):
        web = Network.read("cell a plain\ntie link a a\n")
        for lies in ([], ["link"]):
            self.check(True, tables=tables(ECHO), web=web, liars=[], lies=lies, first={"a": ("0",)}, second={"a": None},
                       spot="a")


class HiddenTest(StatesCase):
    shape = Hidden
    word = "hidden"
    answer = False
    WEB = HarmedTest.given["web"]
    given = {"tables": tables(LEVELS), "web": WEB, "state": state("g=0a b=0b m=1a e=-"), "cells": ["b", "m", "e"],
             "ties": [("link", "b", "m"), ("link", "m", "e")]}

    def test_what_all_classes_have(self):
        self.check_all()

    def test_states(self):
        self.check_states()
        self.check(False, state=state("g=0a b=0b m=1b e=2b"))
        self.check(False, state=state("g=0a b=0b m=1a e=2b"))

    def test_the_way_must_bring_something_better(self):
        for cells, ties in ((["g", "m", "e"], [("link", "g", "m"), ("link", "m", "e")]),
                            (["b", "m"], [("link", "b", "m")]), (["m", "e"], [("link", "m", "e")]),
                            (["b"], []), (["m"], []), (["e"], [])):
            self.check(False, cells=cells, ties=ties)
        less = self.WEB.clone()
        less.cut("link", "g", "m")
        self.check(False, web=less, state=state("g=0a b=0b m=1b e=2b"))

    def test_cells(self):
        self.check(True, cells=("b", "m", "e"))
        for cells in (["b", "m"], ["b", "m", "e", "e"], ["b", "m", "m"], ["g", "m", "e"], ["b", "e", "m"], ["m", "e", "b"],
                      [], ["b", "m", "strange"], ["b", None, "e"], [["b"], "m", "e"], "bme", {"b": 1, "m": 2, "e": 3}):
            self.check(False, cells=cells)
        self.check(False, cells=[], ties=[])
        self.check(False, cells=["strange"], ties=[])
        self.check(False, cells=[None], ties=[])

    def test_ties(self):
        good = self.given["ties"]
        self.check(True, ties=tuple(good))
        for ties in (good[:1], good[1:], [*good, good[1]], good[::-1], [good[0], good[0]], [["link", "b", "m"], good[1]],
                     [("road", "b", "m"), good[1]], [("link", "b", "e"), good[1]], [None, good[1]], [],
                     [("link", "m", "b"), good[1]], [("link", "g", "m"), good[1]], [good[0], ("link", "m", "m")]):
            self.check(False, ties=ties)

    def test_a_tie_that_is_not_in_the_network(self):
        less = self.WEB.clone()
        less.cut("link", "b", "m")
        self.check(False, web=less)

    def test_ways_may_come_to_a_cell_twice(self):
        web = self.WEB.clone()
        web.add_tie("link", "b", "b")
        self.check(True, web=web)
        # The program makes nothing of the level 2, so this longer way brings nothing better.
        self.check(False, web=web, cells=["b", "b", "m", "e"], ties=[("link", "b", "b"), *self.given["ties"]])

    def test_the_way_begins_with_a_birth(self):
        # What m holds is no birth: plain cells are born with nothing.
        web = Network.read("cell b bad\ncell m plain\ncell e plain\ntie link b m\n")
        self.check(False, web=web, state=state("b=0b m=1b e=-"), cells=["m"], ties=[])

    def test_the_samples_are_stands(self):
        found = stands_anew(self.given["tables"], self.WEB)
        self.assertEqual(found, [self.given["state"]])
        for cell in self.WEB.cells():
            self.assertEqual(looked_anew(self.given["tables"], self.WEB, cell, found[0]), found[0][cell])


if __name__ == "__main__":
    unittest.main()
