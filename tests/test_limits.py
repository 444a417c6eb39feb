"""Tests of bestheard.limits: the limits of each round, and the pairs that are possible by limits."""

import unittest

from anew import all_none, next_anew, pairs_anew, rounds_anew
from bestheard.limits import limit_rounds, possible_pairs
from bestheard.rulebooks import Rulebook
from bestheard.tables import mixture, tables_of
from samples import AGES, ECHO, LEVELS, ROADS, WIDE, Maker


def tables(text):
    return tables_of(Rulebook.read(text))


def copied(rounds):
    return [{kind: list(row) for kind, row in limits.items()} for limits in rounds]


class RoundsTest(unittest.TestCase):
    def check_anew(self, made):
        """Check all rounds against the sentence of point 14."""
        rounds = limit_rounds(made)
        self.assertEqual(rounds, rounds_anew(all_none(made), lambda limits: next_anew(made, limits)))
        self.assertEqual([list(limits) for limits in rounds], [made.kinds()] * len(rounds))
        return rounds

    def test_the_example(self):
        self.assertEqual(limit_rounds(tables=tables("field age 0 1\ntie link\nwhen age=0 do age+\ncell plain age+\n")),
                         [{"plain": [2, 2, 2]}, {"plain": [-1, 2, 2]}, {"plain": [-1, -1, 2]}])

    def test_a_round_that_leaves_the_first_limits(self):
        self.assertEqual(limit_rounds(tables(ECHO)), [{"plain": [2, 2, 2]}])

    def test_births(self):
        # What is behind the birth is never held; the birth itself may stand beside whatever is better.
        self.assertEqual(self.check_anew(tables(AGES)), [
            {"plain": [3, 3, 3, 3], "root": [3, 3, 3, 3]}, {"plain": [-1, 3, 3, 3], "root": [0, -1, -1, -1]},
            {"plain": [-1, 1, 3, 3], "root": [0, -1, -1, -1]}, {"plain": [-1, 1, 2, 3], "root": [0, -1, -1, -1]}])
        echo = tables(ECHO.replace("cell plain age+\n", "cell plain age+\nborn 1\n"))
        self.assertEqual(limit_rounds(echo), [{"plain": [2, 2, 2]}, {"plain": [1, 1, -1]}])

    def test_limits_are_at_most_the_place_of_the_birth(self):
        # 0 is led to by 0 beside 1 and beside nothing; but nothing is worse than the birth.
        text = "field age 0 1 2\ntie link\nwhen age=0 do keep\ncell plain\nborn 1\n"
        self.assertEqual(limit_rounds(tables(text)), [{"plain": [3, 3, 3, 3]}, {"plain": [1, 1, -1, -1]}])

    def test_takings_and_keys(self):
        for text in (AGES.replace("cell plain age+\n", "cell plain age-\n"),
                     AGES.replace("cell plain age+\n", "cell plain age+\nwhen age=2 do age:0\nwhen always do keep\n"),
                     AGES.replace("cell plain age+\n", "cell plain\nwhen age=1 do age:1\nborn 2\n"),
                     AGES.replace("cell root\n", "cell root age-\nwhen age>1 do drop\nwhen always do age+\n")):
            self.check_anew(tables(text))

    def test_one_two_and_three_kinds(self):
        for text in (ECHO, AGES, ROADS, LEVELS):
            self.check_anew(tables(text))
        for seed in range(60):
            self.check_anew(tables_of(SmallMaker(seed).book()))

    def test_mixtures(self):
        one = Rulebook.read(AGES)
        other = Rulebook.read(AGES.replace("when age=2", "when age>0").replace("born 0", "born 1"))
        for books in ([one], [one, other], [other, one, one]):
            self.check_anew(mixture(*books))

    def test_the_last_round_is_the_first_one_that_stays(self):
        for text in (AGES, ECHO, ROADS, LEVELS, WIDE):
            made = tables(text)
            rounds = limit_rounds(made)
            self.assertEqual(rounds[0], all_none(made))
            for before, after in zip(rounds, rounds[1:]):
                self.assertNotEqual(before, after)
                for kind in made.kinds():
                    self.assertTrue(all(late <= early for early, late in zip(before[kind], after[kind])))
        self.assertEqual(next_anew(tables(WIDE), limit_rounds(tables(WIDE))[-1]), limit_rounds(tables(WIDE))[-1])
        self.assertEqual(len(limit_rounds(tables(WIDE))), 25)

    def test_what_is_returned_is_new(self):
        made = tables(AGES)
        before = copied(limit_rounds(made))
        found = limit_rounds(made)
        for limits in found:
            limits["plain"][0] = 77
            del limits["root"]
        found.clear()
        self.assertEqual(limit_rounds(made), before)
        found = limit_rounds(made)
        found[0]["plain"][0] = 77
        self.assertEqual([found[1:], found[0]["root"]], [before[1:], before[0]["root"]])


class SmallMaker(Maker):
    """Makes rulebooks with few values, so that the document's sentences can be gone through for all places."""

    def fields(self):
        return [[("age", ("0", "1"))], [("age", ("0", "1", "2"))], [("age", ("0", "1")), ("far", ("a", "b"))],
                [("far", ("a", "b", "c", "d"))]][self.number(0, 3)]


class PairsTest(unittest.TestCase):
    def test_all_and_none(self):
        made = tables(AGES)
        places = range(4)
        self.assertEqual(possible_pairs(made, all_none(made)),
                         [(kind, p, q) for kind in ("plain", "root") for p in places for q in places])
        for worst in (-1, -5, -10 ** 29):
            self.assertEqual(possible_pairs(made, {kind: [worst] * 4 for kind in ("plain", "root")}), [])
        self.assertEqual(len(possible_pairs(made, {kind: [10 ** 29] * 4 for kind in ("plain", "root")})), 32)

    def test_both_limits_count(self):
        made = tables("field age 0 1\ntie link\nwhen age=0 do age+\ncell plain age+\n")
        self.assertEqual(possible_pairs(limits={"plain": [1, 0, 2]}, tables=made),
                         [("plain", 0, 0), ("plain", 0, 1), ("plain", 1, 0), ("plain", 2, 2)])
        self.assertEqual(possible_pairs(made, {"plain": [2, 0, -1]}), [("plain", 0, 0), ("plain", 0, 1), ("plain", 1, 0)])
        self.assertEqual(possible_pairs(made, {"plain": [1, -1, 1]}), [("plain", 0, 0)])
        self.assertEqual(possible_pairs(made, {"plain": (-1, -1, 2)}), [("plain", 2, 2)])

    def test_the_order_is_that_of_the_kinds(self):
        made = tables(AGES)
        found = possible_pairs(made, {"root": [0, -1, -1, -1], "plain": [-1, 1, 3, 3]})
        self.assertEqual(found, [("plain", 1, 1), ("plain", 2, 2), ("plain", 2, 3), ("plain", 3, 2), ("plain", 3, 3),
                                 ("root", 0, 0)])

    def test_drawn_limits(self):
        for seed in range(60):
            maker = Maker(seed)
            made = tables(maker.choice([AGES, ROADS, LEVELS]))
            low, high = maker.choice([(-1, made.size - 1), (-3, made.size + 3), (-10 ** 20, 10 ** 20)])
            limits = {kind: [maker.number(low, high) for _ in range(made.size)] for kind in made.kinds()[::-1]}
            before = copied([limits])[0]
            found = possible_pairs(made, limits)
            self.assertEqual(found, pairs_anew(made, limits, limits))
            found.clear()
            self.assertEqual([limits, possible_pairs(made, limits)], [before, pairs_anew(made, limits, limits)])

    def test_by_the_last_limits(self):
        made = tables(WIDE)
        for kind, p, q in possible_pairs(made, limit_rounds(made)[-1]):
            self.assertEqual(p, q)
            self.assertLessEqual(p, made.birth(kind))


if __name__ == "__main__":
    unittest.main()
