"""Tests of bestheard.certificates: certificates of limits, Settles, Agree, Harmless, Firm and Open."""

import unittest

from anew import all_none, next_anew, next_both_anew, next_with_more_anew, rounds_anew, uneven_anew
from bestheard.certificates import Agree, Certificate, Firm, Harmless, Open, Settles
from bestheard.limits import limit_rounds
from bestheard.rulebooks import Rulebook
from bestheard.tables import mixture
from certificates_case import ODD_VALUES, CertificateCase, tables
from samples import AGES, ECHO, LEVELS

BOTH_NONE = {"plain": [3, 3, 3, 3], "root": [3, 3, 3, 3]}
# The first option is the level, the second one is passed on as it is.
SHADES = "field lv 0 1\nfield v a b\ntie link\nwhen lv=0 do lv+\ncell plain lv+\ncell root\nborn 0 a\n"


class CertificateTest(unittest.TestCase):
    def test_the_base_class(self):
        found = Certificate()
        self.assertEqual([found.told(), repr(found)], ["unknown", "Certificate(unknown)"])
        self.assertIs(found.holds(), False)
        self.assertIs(bool(found), False)
        for name in ("told", "holds", "__bool__", "__repr__"):
            self.assertIn(name, vars(Certificate))
        with self.assertRaises(TypeError):
            Certificate(1)


class LimitsCase(CertificateCase):
    """A test of a class whose rounds are lists of limits."""

    def check_forms(self):
        """Check what are no limits; the first ones are at fault alone, for all later ones would hold with any."""
        rounds = self.given["rounds"]
        kinds = self.given["tables"].kinds()
        self.check(True, rounds=tuple(rounds))
        self.check(True, rounds=rounds + rounds[-1:])
        self.check(False, rounds=[])
        self.check(False, rounds=rounds[1:])
        for at, limits in enumerate(rounds):
            for odd in ODD_VALUES:
                self.check(False, **self.changed("rounds", [at], odd))
                self.check(False, **self.changed("rounds", [at, kinds[0]], odd))
                if not isinstance(odd, int) or isinstance(odd, bool):
                    self.check(False, **self.changed("rounds", [at, kinds[0], 0], odd))
            self.check(True, **self.changed("rounds", [at, kinds[0]], tuple(limits[kinds[0]])))
            self.check(False, **self.changed("rounds", [at, kinds[0]], limits[kinds[0]][:-1]))
            self.check(False, **self.changed("rounds", [at, kinds[0]], [*limits[kinds[0]], -1]))
            self.check(False, **self.changed("rounds", [at, "strange"], limits[kinds[0]]))
            self.check(False, **self.changed("rounds", [at], {kinds[0]: limits[kinds[0]]}))

    def check_numbers(self, next_of, wrong):
        """Check all limits that are one lower or higher, against the sentences of the document."""
        rounds = self.given["rounds"]
        last = self.given["tables"].size - 1
        for at, limits in enumerate(rounds):
            for kind, row in limits.items():
                for place, limit in enumerate(row):
                    for other in (limit - 1, limit + 1, -10 ** 29, 10 ** 29):
                        changes = self.changed("rounds", [at, kind, place], other)
                        self.check(self.holds_anew(changes["rounds"], next_of, wrong, last), **changes)

    @staticmethod
    def holds_anew(rounds, next_of, wrong, last):
        if any(limit != last for row in rounds[0].values() for limit in row):
            return False
        for before, after in zip(rounds, rounds[1:]):
            least = next_of(before)
            if any(limit < bound for kind in least for limit, bound in zip(after[kind], least[kind])):
                return False
        return not wrong(rounds[-1])


class SettlesTest(LimitsCase):
    shape = Settles
    word = "settles"
    answer = True
    given = {"tables": tables(AGES), "rounds": limit_rounds(tables(AGES))}

    def test_what_all_classes_have(self):
        self.check_all()

    def test_forms(self):
        self.check_forms()

    def test_each_number(self):
        made = self.given["tables"]
        self.check_numbers(lambda before: next_anew(made, before), lambda last: uneven_anew(made, last))

    def test_a_round_too_few(self):
        self.check(False, rounds=self.given["rounds"][:-1])
        self.check(False, rounds=self.given["rounds"][:1])
        self.check(False, rounds=self.given["rounds"][:1] + self.given["rounds"][2:])

    def test_higher_limits_may_stand_if_the_end_is_the_same(self):
        rounds = self.given["rounds"]
        self.check(True, rounds=[rounds[0], rounds[0], *rounds[1:]])
        self.check(True, rounds=[rounds[0], rounds[0], rounds[1], rounds[1], *rounds[2:], rounds[-1]])
        made = self.given["tables"]
        for raised in ({"plain": [2, 3, 3, 3], "root": [3, 0, 0, 0]}, {"plain": [0, 4, 5, 3], "root": [99, -1, 0, 7]}):
            later = rounds_anew(raised, lambda limits: next_anew(made, limits))
            self.assertGreater(len(later), 2)
            self.check(True, rounds=[rounds[0], *later])
            self.check(False, rounds=[rounds[0], raised, *rounds[2:]])
        # A limit may be higher than the others need it, if the pair is not possible by the limit of its other place.
        self.check(True, **self.changed("rounds", [3, "plain", 0], 0))
        self.check(False, **self.changed("rounds", [3, "plain", 0], 1))
        self.check(True, **self.changed("rounds", [3, "root"], [0, 0, 1, 2]))
        self.check(False, **self.changed("rounds", [3, "root"], [1, 0, 1, 2]))

    def test_what_does_not_settle(self):
        echo = tables(ECHO)
        first = {"plain": [2, 2, 2]}
        even = {"plain": [0, 1, 2]}
        for rounds in ([first], [first, first], [first, even], [first, {"plain": [-1, -1, 2]}], [even]):
            self.check(False, tables=echo, rounds=rounds)

    def test_mixtures(self):
        book = Rulebook.read(AGES)
        made = mixture(book, book)
        self.check(True, tables=made, rounds=limit_rounds(made))
        self.check(False, tables=made)
        self.check(False, rounds=limit_rounds(made))

    def test_the_delay(self):
        self.assertEqual([self.made().delay, self.made(rounds=[]).delay, self.made(rounds=[1, 2]).delay], [3, -1, 1])
        self.assertEqual(self.made(rounds=tuple(self.given["rounds"])).delay, 3)
        for odd in ODD_VALUES:
            expected = len(odd) - 1 if isinstance(odd, (list, tuple)) else None
            self.assertEqual(self.made(rounds=odd).delay, expected)
        self.assertIsInstance(vars(Settles)["delay"], property)


class PairsCase(LimitsCase):
    """A test of a class whose rounds are lists of pairs of limits."""

    def check_forms(self):
        rounds = self.given["rounds"]
        kinds = self.given["tables"].kinds()
        self.check(True, rounds=tuple(rounds))
        self.check(True, rounds=rounds + rounds[-1:])
        self.check(False, rounds=[])
        self.check(False, rounds=rounds[1:])
        for at, both in enumerate(rounds):
            for odd in (*ODD_VALUES, list(both), both[0], (both[0],), (*both, both[1])):
                self.check(False, **self.changed("rounds", [at], odd))
            for side, limits in enumerate(both):
                for odd in ODD_VALUES:
                    self.check(False, **self.changed("rounds", [at, side], odd))
                    self.check(False, **self.changed("rounds", [at, side, kinds[0]], odd))
                for row in (limits[kinds[0]][1:], [*limits[kinds[0]], -1], [None, *limits[kinds[0]][1:]]):
                    self.check(False, **self.changed("rounds", [at, side, kinds[0]], row))
                self.check(True, **self.changed("rounds", [at, side, kinds[0]], tuple(limits[kinds[0]])))
                self.check(False, **self.changed("rounds", [at, side, "strange"], limits[kinds[0]]))

    def check_numbers(self, next_of, wrong):
        rounds = self.given["rounds"]
        last = self.given["tables"].size - 1
        for at, both in enumerate(rounds):
            for side, limits in enumerate(both):
                for kind, row in limits.items():
                    for place, limit in enumerate(row):
                        for other in (limit - 1, limit + 1):
                            changes = self.changed("rounds", [at, side, kind, place], other)
                            self.check(self.holds_anew(changes["rounds"], next_of, wrong, last), **changes)

    @staticmethod
    def holds_anew(rounds, next_of, wrong, last):
        if any(limit != last for limits in rounds[0] for row in limits.values() for limit in row):
            return False
        for before, after in zip(rounds, rounds[1:]):
            for side, least in enumerate(next_of(before)):
                if any(limit < bound for kind in least for limit, bound in zip(after[side][kind], least[kind])):
                    return False
        return not wrong(rounds[-1])


def possible(both):
    """Return the list of (kind, p, q) that are possible by a pair of limits."""
    return [(kind, p, q) for kind, left in both[0].items() for p, limit in enumerate(left)
            for q, other in enumerate(both[1][kind]) if q <= limit and p <= other]


def both_rounds(one, other):
    return rounds_anew((all_none(one), all_none(one)), lambda both: next_both_anew(one, other, both))


class AgreeTest(PairsCase):
    shape = Agree
    word = "agree"
    answer = True
    ONE = tables(SHADES)
    # The same with another order of plain cells, and another birth of roots.
    OTHER = tables(SHADES, ("plain lv+", "plain v- lv+"), ("born 0 a", "born 0 b"))
    given = {"tables": ONE, "others": OTHER, "seen": [0], "rounds": both_rounds(ONE, OTHER)}
    fitting = {"seen": [[], (), [0], (0,)]}

    def test_what_all_classes_have(self):
        self.check_all()

    def test_forms(self):
        self.check_forms()

    def test_each_number(self):
        def wrong(both):
            for kind, p, q in possible(both):
                one, other = self.ONE.order(kind)[p], self.OTHER.order(kind)[q]
                if (one is None) != (other is None) or one is not None and one[0] != other[0]:
                    return True
            return False

        self.check_numbers(lambda before: next_both_anew(self.ONE, self.OTHER, before), wrong)

    def test_seen(self):
        for seen in ([0], (0,), [0, 0, 0], [], ()):
            self.check(True, seen=seen)
        for seen in ([1], [0, 1], None, [2], [-1], [-2], [True], [False], ["lv"], [None], [[0]], 0, "0", {0: 0}, [0, 2],
                     [10 ** 29]):
            self.check(False, seen=seen)

    def test_seen_by_no_field_only_nothing_differs_from_values(self):
        less = tables(SHADES, ("born 0 a", "born 1 a"))
        self.check(False, others=less, rounds=both_rounds(self.ONE, less), seen=[])
        more = tables(SHADES, ("when lv=0 do lv+", "when lv=0 do lv+, v:b"))
        for seen, holds in (([], True), ([0], True), ([1], False), (None, False)):
            self.check(holds, others=more, rounds=both_rounds(self.ONE, more), seen=seen)

    def test_both_sides_are_seen(self):
        rounds = both_rounds(self.OTHER, self.ONE)
        self.check(True, tables=self.OTHER, others=self.ONE, rounds=rounds)
        self.check(False, rounds=rounds)

    def test_all_fields_for_none(self):
        same = tables(SHADES, ("when lv=0", "when lv<1"))
        for seen in (None, [0, 1], [1, 0], [1], []):
            self.check(True, others=same, rounds=both_rounds(self.ONE, same), seen=seen)

    def test_other_fields_ties_and_kinds(self):
        one = self.ONE
        for pairs in ([("tie link", "tie road")], [("cell plain", "cell plan")], [("cell root\nborn 0 a\n", "")],
                      [("field v a b", "field v a c")], [("field v a b", "field v a b c")],
                      [("cell plain", "tie road\nwhen always do drop\ncell plain")]):
            other = tables(SHADES, *pairs)
            self.check(False, others=other, rounds=both_rounds(one, one))
            self.check(False, tables=other, others=one, rounds=both_rounds(one, one))
            if other.kinds() == one.kinds() and other.ties() == one.ties():
                self.check(False, others=other, seen=[0])

    def test_more_options_that_are_never_held(self):
        text = "field v a b\ntie t\nwhen always do drop\ncell k\nborn a\n"
        one, more = tables(text), tables(text, ("a b", "a b c"))
        first, last = {"k": [2, 2, 2]}, {"k": [0, -1, -1]}
        for seen in (None, [0], []):
            self.check(True, tables=one, others=one, seen=seen, rounds=[(first, first), (last, last)])
            self.check(False, tables=one, others=more, seen=seen, rounds=[(first, first), (last, last)])
            self.check(False, tables=more, others=one, seen=seen, rounds=[(first, first), (last, last)])


class HarmlessTest(PairsCase):
    shape = Harmless
    word = "harmless"
    answer = True
    given = {"tables": tables(AGES),
             "rounds": rounds_anew((BOTH_NONE, BOTH_NONE), lambda both: next_with_more_anew(tables(AGES), both))}

    def test_what_all_classes_have(self):
        self.check_all()

    def test_forms(self):
        self.check_forms()

    def test_each_number(self):
        self.check_numbers(lambda before: next_with_more_anew(self.given["tables"], before),
                           lambda both: any(p > q for _, p, q in possible(both)))

    def test_the_left_side_is_the_one_with_more_ties(self):
        self.check(False, rounds=[both[::-1] for both in self.given["rounds"]])
        # The limits of point 18 are those of networks with equal ties, and too low for the left side here.
        made = self.given["tables"]
        self.check(False, rounds=rounds_anew((BOTH_NONE, BOTH_NONE), lambda both: next_both_anew(made, made, both)))

    def test_both_limits_must_let_a_pair_be_possible(self):
        rounds = self.given["rounds"]
        left, right = rounds[-1]
        self.assertEqual([left["root"], right["root"]], [[0, -1, -1, -1]] * 2)
        more, less = {**left, "root": [0, 0, -1, -1]}, {**right, "root": [1, -1, -1, -1]}
        for both, holds in (((more, right), True), ((left, less), True), ((more, less), False)):
            self.check(holds, rounds=[*rounds[:-1], both])

    def test_what_harms(self):
        # In the second one what is preferred, and leads nowhere, is the very best.
        for made in (tables(LEVELS), tables("field v a b c d e\ntie t\nwhen v=c do v:a\nwhen v=d do v:b\nwhen v=b do v:e\n"
                                            "cell plain\ncell good\nborn c\ncell bad\nwhen always do drop\nborn d\n")):
            first = (all_none(made), all_none(made))
            rounds = rounds_anew(first, lambda both: next_with_more_anew(made, both))
            self.assertTrue(any(p > q for _, p, q in possible(rounds[-1])))
            self.check(False, tables=made, rounds=rounds)
            # The right side misses nothing by the limits of point 18.
            rounds = rounds_anew(first, lambda both: next_both_anew(made, made, both))
            self.check(False, tables=made, rounds=rounds)

    def test_a_tie_to_the_best_place_may_be_missed(self):
        made = tables("field v a b\ntie t\nwhen v=b do v:a\ncell plain\ncell good\nwhen always do drop\nborn b\n")
        first = all_none(made)
        good = {"plain": [2, -1, 2], "good": [-1, 1, -1]}
        right = {"plain": [0, -1, 2], "good": [-1, 1, -1]}
        rounds = rounds_anew((first, first), lambda both: next_with_more_anew(made, both))
        self.assertEqual(rounds[-1], (good, right))
        self.check(True, tables=made, rounds=rounds)
        self.check(False, tables=made, rounds=[*rounds[:-1], ({**good, "plain": [0, -1, 2]}, right)])
        self.check(False, tables=made, rounds=[*rounds, ({**good, "plain": [0, -1, 2]}, right)])


class FirmTest(LimitsCase):
    shape = Firm
    word = "firm"
    answer = True
    given = {"tables": tables(AGES), "kind": "root", "lies": ["link"],
             "rounds": rounds_anew(BOTH_NONE, lambda limits: next_anew(tables(AGES), limits, ["link"]))}
    fitting = {}

    def test_what_all_classes_have(self):
        # Without lies the limits may be lower, so these hold, too.
        self.fitting = {"lies": [[], ()]}
        self.check_all()

    def test_forms(self):
        self.check_forms()

    def test_each_number(self):
        made = self.given["tables"]
        self.check_numbers(lambda before: next_anew(made, before, ["link"]),
                           lambda last: [pair for pair in uneven_anew(made, last) if pair[0] == "root"])

    def test_only_the_kind_counts(self):
        for kind in ("plain", "link", "rot", "root.0", None, ["root"], ("root",), 0):
            self.check(False, kind=kind)

    def test_lies(self):
        for lies in (["link"], ("link",), ["link", "link"], [], ()):
            self.check(True, lies=lies)
        for lies in (["road"], ["link", "road"], "link", None, [None], [["link"]], {"link": True}, [True]):
            self.check(False, lies=lies)

    def test_the_limits_without_lies_are_too_low_for_lies(self):
        rounds = limit_rounds(self.given["tables"])
        for lies, holds in (([], True), (["link"], False)):
            self.check(holds, rounds=rounds, kind="plain", lies=lies)
            self.check(holds, rounds=rounds, lies=lies)

    def test_some_ties_only(self):
        text = AGES.replace("cell plain", "tie road\nwhen always do drop\ncell plain")
        made = tables(text)
        self.check(True, tables=made, rounds=limit_rounds(made), kind="plain", lies=["road"])
        self.check(False, tables=made, rounds=limit_rounds(made), kind="plain", lies=["road", "link"])

    def test_kinds_that_do_not_settle(self):
        text = ("field v a b\ntie one\nwhen always do keep\ncell loud\ncell deaf\nwhen always do drop\n")
        made = tables(text)
        for lies in ([], ["one"]):
            rounds = rounds_anew(all_none(made), lambda limits: next_anew(made, limits, lies))
            self.check(True, tables=made, rounds=rounds, kind="deaf", lies=lies)
            self.check(False, tables=made, rounds=rounds, kind="loud", lies=lies)


class OpenTest(CertificateCase):
    shape = Open
    word = "open"
    answer = True
    # What a plain cell can hold is 1, 2 and nothing; to each of them comes 1 or 2, but 1 only where 1 is held.
    given = {"tables": tables(AGES), "standing": {"plain": [1, 2, 3], "root": [0]},
             "pairs": {"plain": [(3, 1), (3, 2), (3, 3), (1, 1), (2, 1), (2, 2)], "root": [(0, 0), (1, 0), (2, 0)]}}

    def test_what_all_classes_have(self):
        self.check_all()

    def test_all_that_must_stand(self):
        self.check(True, standing={"root": (0, 0), "plain": (3, 2, 1, 1)})
        for kind, places in (("plain", [1, 2]), ("plain", [1, 3]), ("plain", [2, 3]), ("plain", []), ("root", [])):
            self.check(False, **self.changed("standing", [kind], places))

    def test_births_stand_even_where_nothing_leads_to_them(self):
        made = tables("field v a b\ntie t\nwhen always do v:a\ncell k\ncell l\nborn b\n")
        pairs = {"k": [(0, 0), (2, 0), (2, 2)], "l": [(0, 0), (1, 0), (1, 1)]}
        self.check(True, tables=made, standing={"k": [0, 2], "l": [0, 1]}, pairs=pairs)
        self.check(False, tables=made, standing={"k": [0], "l": [0, 1]}, pairs=pairs)
        self.check(False, tables=made, standing={"k": [0, 2], "l": [0]}, pairs=pairs)

    def test_more_may_stand_if_its_pairs_are_there(self):
        self.check(False, **self.changed("standing", ["plain"], [1, 2, 3, 0]))
        pairs = {"plain": [(3, 0), *self.given["pairs"]["plain"], (1, 0), (2, 0)], "root": self.given["pairs"]["root"]}
        self.check(True, standing={"plain": [0, 1, 2, 3], "root": [0]}, pairs=pairs)
        for pair in pairs["plain"]:
            less = {**pairs, "plain": [other for other in pairs["plain"] if other != pair]}
            self.check(False, standing={"plain": [0, 1, 2, 3], "root": [0]}, pairs=less)

    def test_all_pairs_that_must_be_there(self):
        for kind, row in self.given["pairs"].items():
            self.check(True, **self.changed("pairs", [kind], tuple(row + row)))
            for pair in row:
                self.check(False, **self.changed("pairs", [kind], [other for other in row if other != pair]))

    def test_more_pairs(self):
        for kind in ("plain", "root"):
            for pair in [(way, place) for way in range(4) for place in range(4)]:
                found = {kind: list(row) for kind, row in self.given["pairs"].items()}
                found[kind].append(pair)
                self.check(self.holds_anew(self.given["standing"], found), pairs=found)

    def holds_anew(self, standing, pairs):
        made = self.given["tables"]
        for source, row in pairs.items():
            for way, place in row:
                if way < place:
                    return False
                for target in made.kinds():
                    brought, offered = [made.lead("link", source, target, held) for held in (way, place)]
                    if brought < 3 and any((brought, held) not in pairs[target]
                                           for held in standing[target] if held <= offered):
                        return False
        return True

    def test_no_pair_may_be_worse_than_what_is_brought(self):
        made = tables(LEVELS)
        size = range(made.size)
        standing = {kind: list(size) for kind in made.kinds()}
        pairs = {kind: [(way, place) for way in size for place in size] for kind in made.kinds()}
        self.check(False, tables=made, standing=standing, pairs=pairs)
        pairs = {kind: [pair for pair in row if pair[0] >= pair[1]] for kind, row in pairs.items()}
        self.check(False, tables=made, standing=standing, pairs=pairs)

    def test_forms(self):
        for name, good in (("standing", 1), ("pairs", (1, 1))):
            for odd in ODD_VALUES:
                if not isinstance(odd, (list, tuple)) or odd:
                    self.check(False, **self.changed(name, ["plain"], odd))
                if odd not in (0, 1) or isinstance(odd, bool):
                    self.check(False, **self.changed(name, ["plain"], [*self.given[name]["plain"], odd]))
            self.check(False, **self.changed(name, ["strange"], [good]))
            self.check(False, **self.changed(name, ["strange"], []))
            self.check(False, **{name: {"plain": self.given[name]["plain"]}})
        for odd in (4, -1, 10 ** 29, True, False, "1", (1,)):
            self.check(False, standing={"plain": [1, 2, 3, odd], "root": [0]})
            for pair in ((odd, 1), (3, odd), [3, 1], (3,), (3, 1, 1)):
                if pair != (4, 1):
                    self.check(False, pairs={**self.given["pairs"], "plain": [*self.given["pairs"]["plain"], pair]})
        self.check(False, pairs={**self.given["pairs"], "plain": [*self.given["pairs"]["plain"], (4, 1)]})

    def test_what_is_worse_than_a_birth_does_not_stand(self):
        # 2 leads to 3, which is behind the birth of late cells; they hold their birth then.
        text = "field v 0 1 2 3\ntie link\nwhen v=2 do v+\ncell late\nborn 2\n"
        self.check(True, tables=tables(text), standing={"late": [2]}, pairs={"late": [(2, 2), (3, 2)]})
        self.check(False, tables=tables(text), standing={"late": [2]}, pairs={"late": [(2, 2)]})
        self.check(False, tables=tables(text), standing={"late": [3]}, pairs={"late": [(2, 3), (3, 3)]})


if __name__ == "__main__":
    unittest.main()
