"""Tests of bestheard.desk: lines, answers, errors and the log."""

import unittest

from bestheard.asking import standing
from bestheard.desk import Desk
from bestheard.live import Live
from bestheard.networks import Network
from bestheard.rulebooks import Rulebook
from bestheard.tables import tables_of
from bestheard.words import cell_names
from samples import AGES, DEEP, LEVELS, SHORT, TEXT, UNSETTLED, Maker

WRONG_WORDS = ["", "Value", "values", "rules", "undo\n", "say", "log", "network", "help", "?", "ok", "cellss", "0", "None"]
LENGTHS = {"cell": 3, "drop": 2, "kind": 3, "tie": 4, "cut": 4, "undo": 1, "redo": 1, "value": 2, "cells": 1, "changed": 1,
           "delay": 1, "standing": 2}


def desk(text=TEXT, rules=AGES, **more):
    return Desk(Live(Rulebook.read(rules), network=Network.read(text), **more))


class DeskCase(unittest.TestCase):
    def check(self, made, *pairs):
        """Check the answers to some lines, told by pairs of a line and its answer."""
        for line, answer in pairs:
            self.assertEqual(made.say(line), answer, line)


class AnswersTest(DeskCase):
    def test_commands(self):
        made = desk("")
        self.check(made, ("cell a root", "ok"), ("cell b plain", "ok"), ("tie link a b", "ok"), ("value b", "1"),
                   ("cell c plain", "ok"), ("tie link b c", "ok"), ("value c", "2"), ("cut link b c", "ok"),
                   ("value c", "nothing"), ("kind c root", "ok"), ("value c", "0"), ("drop a", "ok"), ("value b", "nothing"),
                   ("cells", "b c"), ("undo", "ok"), ("cells", "a b c"), ("undo", "ok"), ("value c", "nothing"),
                   ("redo", "ok"), ("value c", "0"), ("redo", "ok"), ("cells", "b c"))
        self.assertEqual(made.live().web().text(), "cell b plain\ncell c root\n")

    def test_errors(self):
        made = desk(limit=3)
        before = made.live().web().text()
        self.check(made, ("cell A plain", "error InvalidName"), ("cell abcdefghi plain", "error InvalidName"),
                   ("cell a other", "error DuplicateCell"), ("cell d other", "error UnknownKind"),
                   ("cell d plain.0", "error UnknownKind"), ("cell d plain", "error Full"), ("drop d", "error UnknownCell"),
                   ("kind d other", "error UnknownCell"), ("kind a other", "error UnknownKind"),
                   ("tie road x y", "error UnknownTie"), ("tie link x b", "error UnknownCell"),
                   ("tie link a x", "error UnknownCell"), ("tie link a b", "error DuplicateTie"),
                   ("cut link b a", "error MissingTie"), ("cut x y z", "error MissingTie"), ("undo", "error EmptyHistory"),
                   ("redo", "error EmptyHistory"), ("value d", "error UnknownCell"), ("value A", "error UnknownCell"),
                   ("standing other", "error UnknownKind"), ("standing plain.0", "error UnknownKind"),
                   ("cell a\nb plain", "error InvalidName"), ("cell d\n plain", "error InvalidName"))
        self.assertEqual([made.live().web().text(), made.live().history(), len(made)], [before, (0, 0), 23])

    def test_questions(self):
        made = desk()
        self.check(made, ("cells", "a b c"), ("changed", "none"), ("delay", "3"), ("standing plain", "3"),
                   ("standing root", "1"), ("value a", "0"), ("cell zz plain", "ok"), ("cell e root", "ok"),
                   ("changed", "e"), ("cells", "a b c zz e"), ("tie link e zz", "ok"), ("changed", "zz"),
                   ("drop a", "ok"), ("changed", "b c"), ("drop e", "ok"), ("changed", "zz"), ("drop zz", "ok"),
                   ("changed", "none"), ("drop b", "ok"), ("drop c", "ok"), ("cells", "none"), ("changed", "none"),
                   ("undo", "ok"), ("changed", "c"))
        made = desk("cell m plain\ncell g good\ncell h bad\ntie link g m\n", LEVELS)
        self.check(made, ("value m", "1 a"), ("value h", "0 b"), ("delay", "3"), ("standing plain", "4"),
                   ("standing good", "1"), ("cell a plain", "ok"), ("changed", "a"), ("drop g", "ok"), ("changed", "m"))
        self.check(desk("", DEEP), ("delay", "24"), ("standing plain", "24"), ("standing picky", "13"), ("cells", "none"))

    def test_questions_go_by_the_present_rulebook(self):
        made = desk()
        made.live().apply(("rules", SHORT))
        self.check(made, ("delay", "2"), ("standing plain", "2"), ("value c", "nothing"), ("changed", "c"),
                   ("undo", "ok"), ("delay", "3"), ("standing plain", "3"), ("value c", "2"))

    def test_new_cells_have_their_names_in_order(self):
        made = desk("")
        for name in cell_names(24):
            self.assertEqual(made.say(f"cell {name} plain"), "ok")
            self.assertEqual(made.say("changed"), name)
        self.check(made, ("cell zz plain", "error Full"), ("cells", " ".join(cell_names(24))))


class UnknownTest(DeskCase):
    def test_other_words_and_other_numbers_of_words(self):
        made = desk()
        before = made.live().web().text()
        for word, length in LENGTHS.items():
            for many in range(1, 7):
                if many != length:
                    self.check(made, (" ".join([word, *["a"] * (many - 1)]), "unknown"))
        for word in WRONG_WORDS:
            for many in range(1, 5):
                self.check(made, (" ".join([word, *["a"] * (many - 1)]), "unknown"))
        self.check(made, ("rules " + UNSETTLED, "unknown"), ("CELLS", "unknown"), ("cells\n", "unknown"))
        self.assertEqual([made.live().web().text(), made.live().history()], [before, (0, 0)])

    def test_empty_words(self):
        made = desk()
        for line in ("cells", "value a", "cell d plain", "undo", "tie link a c", "standing plain", "x"):
            for wrong in (" " + line, line + " ", line.replace(" ", "  "), "  " + line, line + "  "):
                if wrong != line:
                    self.check(made, (wrong, "unknown"))
        # An empty word may make the number of words right.
        self.check(made, ("", "unknown"), (" ", "unknown"), ("  ", "unknown"), ("value ", "unknown"), ("drop ", "unknown"),
                   ("cell  plain", "unknown"), ("cell d ", "unknown"), ("tie link  a", "unknown"), (" a", "unknown"))
        self.assertEqual(len(made.live()), 3)


class LogTest(DeskCase):
    def test_the_log(self):
        made = desk()
        self.assertEqual([made.log(), len(made)], [[], 0])
        expected = []
        for line, answer in (("cells", "a b c"), ("", "unknown"), ("drop x", "error UnknownCell"), ("drop a", "ok"),
                             ("cells", "b c")):
            self.assertEqual(made(line), answer)
            expected.append((line, answer))
            self.assertEqual([made.log(), len(made)], [expected, len(expected)])
        made.log().clear()
        made.log().append(5)
        self.assertEqual([made.log(), len(made)], [expected, 5])
        self.assertEqual([made.say(line="delay"), made(line="delay")], ["3", "3"])

    def test_two_desks_on_one_live_network(self):
        net = Live(Rulebook.read(AGES))
        one, other = Desk(net), Desk(live=net)
        self.assertIs(one.live(), net)
        self.assertIs(other.live(), net)
        self.check(one, ("cell a root", "ok"), ("cells", "a"))
        self.check(other, ("cells", "a"), ("cell b plain", "ok"), ("undo", "ok"), ("redo", "ok"))
        self.check(one, ("changed", "b"), ("undo", "ok"), ("undo", "ok"))
        self.check(other, ("undo", "error EmptyHistory"), ("cells", "none"))
        self.assertEqual([len(one), len(other), net.history()], [5, 6, (0, 2)])
        self.assertEqual(one.log(), [("cell a root", "ok"), ("cells", "a"), ("changed", "b"), ("undo", "ok"), ("undo", "ok")])
        net.apply(("cell", "z", "root"))
        self.check(one, ("value z", "0"))

    def test_the_interface(self):
        for name in "__init__ say __call__ live log __len__".split():
            self.assertIn(name, vars(Desk))


class MadeTest(DeskCase):
    def test_commands_of_a_live_network(self):
        for seed in range(20):
            maker = Maker(seed)
            made = desk()
            net = made.live().clone()
            for _ in range(30):
                name, other = maker.choice("abcd"), maker.choice("abcde")
                words = maker.choice([["cell", name, "plain"], ["drop", name], ["tie", "link", name, other],
                                      ["cut", "link", name, other], ["kind", name, "root"], ["undo"], ["redo"]])
                try:
                    if len(words) > 1:
                        net.apply(tuple(words))
                    else:
                        getattr(net, words[0])()
                    expected = "ok"
                except (ValueError, LookupError) as error:
                    expected = "error " + error.__class__.__name__
                self.check(made, (" ".join(words), expected), ("changed", " ".join(net.changed) or "none"),
                           ("cells", " ".join(net.web().cells()) or "none"))
                for cell, holding in net.stand.items():
                    self.check(made, ("value " + cell, "nothing" if holding is None else holding[0]))
            self.assertTrue(made.live() == net)
            self.check(made, ("standing plain", str(len(standing(tables_of(net.book), "plain")))))


if __name__ == "__main__":
    unittest.main()
