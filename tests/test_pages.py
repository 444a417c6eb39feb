"""Tests of bestheard.pages: pages written, read, and refused with the line that is wrong."""

import unittest

from bestheard.errors import InvalidPage
from bestheard.live import Live
from bestheard.networks import Network
from bestheard.pages import read_page, write_page
from bestheard.rulebooks import Rulebook
from bestheard.words import cell_names
from samples import AGES, ANY_VALUES, DEEP, ECHO, LEVELS, SHORT, TEXT, UNSETTLED, Maker

PAGE = AGES + "network\n" + TEXT
# The numbers of the line network and of the first line behind it.
MIDDLE = 7
START = 8


class PagesTest(unittest.TestCase):
    def test_there_and_back(self):
        net = Live(Rulebook.read(AGES), network=Network.read(TEXT), limit=5)
        net.apply(("rules", SHORT))
        net.apply(("cell", "d", "plain"))
        self.assertEqual(write_page(net), SHORT + "network\n" + TEXT.replace("tie link a", "cell d plain\ntie link a", 1))
        again = read_page(text=write_page(live=net))
        self.assertIsInstance(again, Live)
        self.assertTrue(again == net)
        self.assertEqual([again.limit, again.history(), again.changed, again.stand], [24, (0, 0), [], net.stand])
        self.assertEqual(write_page(again), write_page(net))
        self.assertEqual(net.history(), (2, 0))

    def test_without_cells_and_with_24(self):
        self.assertEqual(write_page(Live(Rulebook.read(AGES))), AGES + "network\n")
        self.assertEqual(len(read_page(AGES + "network\n")), 0)
        many = "".join(f"cell {name} plain\n" for name in cell_names(24))
        self.assertEqual(len(read_page(AGES + "network\n" + many + "tie link a b\n")), 24)

    def test_made_ones(self):
        for seed in range(20):
            maker = Maker(seed)
            book = Rulebook.read(maker.choice([AGES, LEVELS, DEEP, SHORT]))
            net = Live(book, network=maker.network(book.kind_names(), book.tie_names()))
            again = read_page(write_page(net))
            self.assertTrue(again == net)
            self.assertEqual([again.web().cells(), again.web().ties()], [net.web().cells(), net.web().ties()])


class WrongPagesTest(unittest.TestCase):
    def check_wrong(self, text, line):
        with self.assertRaises(InvalidPage, msg=text) as caught:
            read_page(text)
        self.assertEqual(caught.exception.line, line, text)
        self.assertIs(caught.exception.line.__class__, int)

    def lines(self, lines):
        return "".join(line + "\n" for line in lines)

    def test_no_strings(self):
        for value in [*ANY_VALUES, [PAGE], (PAGE,), 10 ** 29]:
            if not isinstance(value, str):
                self.check_wrong(value, 0)

    def test_wrong_lines_of_the_rulebook(self):
        lines = AGES.split("\n")[:-1]
        for at in range(len(lines)):
            for wrong in ("", "x", lines[at] + " ", " " + lines[at], "Network", "network ", " network", "cell x strange",
                          "tie link a b", "cell a root x"):
                for rest in (["network"], ["network", "cell a root"], [], ["x", "y"]):
                    self.check_wrong(self.lines([*lines[:at], wrong, *lines[at + 1:], *rest]), at)
                    self.check_wrong(self.lines([*lines[:at], wrong, *lines[at + 1:], *rest]) + "x", at)

    def test_the_line_network_too_early(self):
        lines = AGES.split("\n")[:-1]
        for at in range(MIDDLE - 2):
            for rest in ([], lines[at:], ["network"], ["x"]):
                self.check_wrong(self.lines([*lines[:at], "network", *rest]), at)
        # With the first kind the rulebook is whole, so the other lines are wrong behind the line network.
        self.check_wrong(self.lines([*lines[:5], "network", *lines[5:]]), 6)
        self.check_wrong(self.lines([*lines[:6], "network", *lines[6:]]), 7)

    def test_a_rulebook_that_does_not_settle(self):
        for text in (UNSETTLED, ECHO):
            at = text.count("\n")
            for rest in ("", TEXT, "x\n", "cell a strange\n", "x", "network\n"):
                self.check_wrong(text + "network\n" + rest, at)
            self.check_wrong(text, at)
            self.check_wrong(text + "x\n" + "network\n", at)

    def test_wrong_lines_of_the_network(self):
        lines = TEXT.split("\n")[:-1]
        cases = [(0, wrong) for wrong in ("cell a", "cell a root root", "cell A root", "cell a Root", "tie link a b")]
        cases += [(1, wrong) for wrong in ("cell a plain", "cell  b plain", "cell b plain.0", "cell b strange", "cell b link")]
        cases += [(3, wrong) for wrong in ("tie road a b", "tie link a x", "tie link a", "tie link a b ", "tie plain a b")]
        cases += [(4, wrong) for wrong in ("tie link a b", "cell d plain", "tie strange b c", "tie link.0 b c")]
        cases += [(at, wrong) for at in range(5) for wrong in ("", "network", "x", "field a 0 1", "when always do keep", " ")]
        for at, wrong in cases:
            for rest in (lines[at + 1:], [], ["x"], ["cell z strange"]):
                for behind in ("", "x"):
                    text = AGES + "network\n" + self.lines([*lines[:at], wrong, *rest]) + behind
                    self.check_wrong(text, START + at)

    def test_the_25th_cell(self):
        names = cell_names(26)
        for kinds in (["plain"] * 26, ["root"] * 26, ["plain"] * 24 + ["strange"] * 2):
            cells = [f"cell {name} {kind}" for name, kind in zip(names, kinds)]
            for many in (25, 26):
                for rest in ([], ["tie link a b"], ["x"]):
                    self.check_wrong(AGES + "network\n" + self.lines([*cells[:many], *rest]), START + 24)
        self.check_wrong(AGES + "network\n" + self.lines(["cell a root", "cell b x", *cells[2:]]), START + 1)

    def test_pages_cut_short_anywhere(self):
        # The texts behind which the rulebook is whole, and then those behind which the page is.
        whole = [self.lines(PAGE.split("\n")[:many]) for many in range(START, 14)]
        for length in range(len(PAGE)):
            text = PAGE[:length]
            if text in whole:
                self.assertEqual(write_page(read_page(text)), text)
            else:
                self.check_wrong(text, text.count("\n"))

    def test_characters_behind_the_last_line_feed(self):
        for text in (PAGE, AGES + "network\n", AGES, "", "field age 0 1\n"):
            for more in ("x", " ", "network", "cell d plain", "tie link c c"):
                self.check_wrong(text + more, text.count("\n"))

    def test_without_the_line_network(self):
        for text in (AGES, "", "field age 0 1 2\n", AGES[:-7], LEVELS):
            self.check_wrong(text, text.count("\n"))
        self.check_wrong(AGES + TEXT, MIDDLE)
        self.check_wrong(TEXT, 0)
        self.check_wrong("network\n", 0)
        self.check_wrong("network\n" + TEXT, 0)
        self.check_wrong("\n", 0)


if __name__ == "__main__":
    unittest.main()
