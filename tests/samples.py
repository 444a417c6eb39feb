"""Rulebooks, networks and states that several tests use, and made ones of every shape."""

import random
import unittest

from bestheard import errors
from bestheard.networks import Network
from bestheard.rulebooks import Rulebook
from bestheard.words import cell_names

# The rulebook of the document's examples.
AGES = ("field age 0 1 2\ntie link\nwhen age=2 do drop\nwhen always do age+\n"
        "cell plain age+\ncell root\nborn 0\n")

# The same names, but only the youngest are passed on; and one that does not settle, for nothing grows too old.
SHORT = AGES.replace("when age=2 do drop", "when age>0 do drop")
UNSETTLED = AGES.replace("when age=2 do drop\n", "")
# A network for them.
TEXT = "cell a root\ncell b plain\ncell c plain\ntie link a b\ntie link b c\n"

# A rulebook that does not settle: what is said goes round for ever.
ECHO = "field age 0 1\ntie link\nwhen always do keep\ncell plain age+\n"

# A rulebook that settles, and in which a tie more can do harm: plain cells prefer a, which goes less far than b.
LEVELS = ("field lv 0 1 2\nfield v a b\n"
          "tie link\nwhen lv=2 do drop\nwhen lv=1 and v=a do drop\nwhen always do lv+\n"
          "cell plain v+\ncell good\nborn 0 a\ncell bad\nborn 0 b\n")

# 24 values and three kinds; it settles, with the delay 24.
WIDE = ("field a 0 1 2 3 4 5\nfield b 0 1 2 3\n"
        "tie link\nwhen a<5 do a+\nwhen b<3 do b+, a:0\nwhen always do drop\n"
        "tie road\nwhen b<3 do b+\nwhen a<5 do a+\n"
        "cell plain b+ a+\n"
        "cell back b- a-\nwhen b>1 do drop\nwhen always do keep\n"
        "cell root a- b+\nwhen a>3 and b>2 do keep\nwhen a<3 do a+\nborn 5 3\n")

# 24 values, each of which can stand: a row of so many cells counts them all.
DEEP = ("field a 0 1 2 3 4 5\nfield b 0 1 2 3\n"
        "tie link\nwhen a<5 do a+\nwhen b<3 do b+, a:0\n"
        "cell plain b+ a+\n"
        "cell picky b+ a+\nwhen b<2 do drop\nwhen always do keep\n"
        "cell root\nwhen always do drop\nborn 0 0\n")

# Two fields, two ties, three kinds; with takings, keys of both directions and births.
ROADS = ("field far 0 1 2\nfield via a b\n"
         "tie road\nwhen far=2 do drop\nwhen always do far+\n"
         "tie path\nwhen via=a and far<2 do via:b\nwhen far!0 do far+, via:a\n"
         "cell town far+ via-\n"
         "cell port via- far-\nwhen far>1 do drop\nwhen via=b do keep\nwhen always do far+\n"
         "cell fort\nwhen always do via:b\nborn 1 b\n")

ANY_VALUES = [None, True, False, 0, 1, -1, "", "a", "age", "AGE", "plain ", (), ("0",), [], ["a"], ("a", "b"),
              [["a"]], (("a", ["b"]),), (None,), 10 ** 29]


class ErrorCase(unittest.TestCase):
    """A test that checks which error a call raises, and with what."""

    def check_error(self, error, given, call, *arguments):
        with self.assertRaises((errors.BestError, errors.Missing)) as caught:
            call(*arguments)
        self.assertIs(caught.exception.__class__, error, arguments)
        found = [value for name, value in vars(caught.exception).items() if name != "code"]
        self.assertEqual(found, [given], arguments)
        self.assertIs(found[0].__class__, given.__class__)


class Maker:
    """Makes rulebooks, networks and states; the same seed makes the same ones."""

    def __init__(self, seed):
        self.random = random.Random(seed)

    def number(self, least, most):
        return self.random.randint(least, most)

    def choice(self, items):
        return self.random.choice(items)

    def fields(self):
        while True:
            many = [self.number(2, 6) for _ in range(self.number(1, 3))]
            product = 1
            for number in many:
                product *= number
            if product <= 24:
                names = self.random.sample(["age", "far", "via", "do", "when"], len(many))
                options = ["0", "1", "2", "a", "b", "keep", "12345678"]
                return [(name, tuple(self.random.sample(options, number))) for name, number in zip(names, many)]

    def program(self, fields):
        return tuple(self.case(fields) for _ in range(self.number(1, self.choice([2, 8]))))

    def case(self, fields):
        tests = []
        for _ in range(self.choice([0, 1, 1, 2, 6])):
            name, options = self.choice(fields)
            tests.append((name, self.choice("=!<>"), self.choice(options)))
        if self.number(0, 4) == 0:
            return (tuple(tests), None)
        steps = []
        for _ in range(self.choice([0, 1, 2, 6])):
            name, options = self.choice(fields)
            steps.append((name, self.choice([*options, "+", "+"])))
        return (tuple(tests), tuple(steps))

    def value(self, fields):
        return tuple(self.choice(options) for _, options in fields)

    def kind(self, name, fields):
        keyed = self.random.sample(fields, self.number(0, len(fields)))
        keys = tuple((field, self.choice("+-")) for field, _ in keyed)
        taking = self.choice([None, self.program(fields)])
        return (name, keys, taking, self.choice([None, self.value(fields)]))

    def parts(self):
        fields = self.fields()
        ties = [(name, self.program(fields)) for name in ["link", "when", "tie", "road"][:self.number(1, 4)]]
        kinds = [self.kind(name, fields) for name in ["plain", "root", "born"][:self.number(1, 3)]]
        return fields, ties, kinds

    def book(self):
        fields, ties, kinds = self.parts()
        return Rulebook(fields, ties=ties, kinds=kinds)

    def network(self, kinds, ties, *, cells=6, many=12):
        names = cell_names(self.number(0, cells))
        network = Network(cells=[(name, self.choice(kinds)) for name in names])
        for _ in range(self.number(0, many) if names else 0):
            tie = (self.choice(ties), self.choice(names), self.choice(names))
            if tie not in network.ties():
                network.add_tie(*tie)
        return network

    def state(self, network, holdings):
        return {cell: self.choice(holdings) for cell in network.cells()}


def made_anew(fields, program, holding):
    """Return what a program makes of a holding, worked out apart from the package."""
    if holding is None:
        return None
    options = dict(fields)
    now = dict(zip(options, holding))
    signs = {"=": lambda a, b: a == b, "!": lambda a, b: a != b, "<": lambda a, b: a < b, ">": lambda a, b: a > b}
    for tests, steps in program:
        places = [(sign, options[name].index(now[name]), options[name].index(option)) for name, sign, option in tests]
        if not all(signs[sign](one, other) for sign, one, other in places):
            continue
        if steps is None:
            return None
        for name, option in steps:
            if option == "+":
                option = (options[name] + options[name][-1:])[options[name].index(now[name]) + 1]
            now[name] = option
        return tuple(now.values())
    return None


def better(fields, keys, one, other):
    """Tell whether one value is better than another one by these keys, as point 6 says it."""
    names = [name for name, _ in fields]
    places = [[options.index(option) for option, (_, options) in zip(value, fields)] for value in (one, other)]
    for field, direction in keys:
        left, right = [row[names.index(field)] for row in places]
        if left != right:
            return (left < right) == (direction == "+")
    return places[0] < places[1]
