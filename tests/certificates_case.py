"""What the tests of certificates have in common."""

import copy
import unittest

from bestheard.networks import Network
from bestheard.rulebooks import Rulebook
from bestheard.tables import tables_of
from samples import ANY_VALUES

ODD_VALUES = [*ANY_VALUES, "plain", "link", {}, {"plain": []}, {"root": [], "plain": []}, {"a": None}, {"a": ("0",)},
              {1: 2, None: [3]}, [{}], [None], [[]], [()], [({}, {})], [({}, {}, {})], [[{}, {}]], [{"plain": None}], 5]


def tables(text, *pairs):
    """Return the tables of the rulebook of a text in which some words are put in the place of others."""
    for old, new in pairs:
        assert old in text
        text = text.replace(old, new)
    return tables_of(Rulebook.read(text))


def changed(value, path, new):
    """Return a copy of lists, tuples and dicts within each other with another value at a path of keys."""
    if not path:
        return new
    key, *rest = path
    found = dict(value) if isinstance(value, dict) else list(value)
    found[key] = changed(value[key], rest, new) if rest else new
    return tuple(found) if isinstance(value, tuple) else found


def spoiled(value):
    """Change all lists and dicts within a value."""
    if isinstance(value, (list, tuple)):
        for item in value:
            spoiled(item)
    if isinstance(value, dict):
        for item in value.values():
            spoiled(item)
        value["spoiled"] = 5
    if isinstance(value, list):
        value.append(5)


class CertificateCase(unittest.TestCase):
    """A test of one class of certificates.

    `shape` is the class, `given` a dict of parameters with which it holds, `word` what is told, `answer` its truth,
    and `fitting` are the odd values that may stand for some parameters.
    """

    shape = None
    word = None
    answer = None
    fitting = {}

    def made(self, **changes):
        return self.shape(**{**self.given, **changes})

    def check(self, holds, **changes):
        self.assertIs(self.made(**changes).holds(), holds, changes)

    def changed(self, name, path, new):
        return {name: changed(self.given[name], path, new)}

    def check_all(self):
        """Check what all classes have in common."""
        self.check(True)
        self.check_words()
        self.check_parameters()
        self.check_shapes()
        self.check_copies()

    def check_words(self):
        for certificate in (self.made(), *[self.made(**{name: 5}) for name in self.values()]):
            self.assertEqual([certificate.told(), repr(certificate)], [self.word, f"Certificate({self.word})"])
            self.assertIs(bool(certificate), self.answer)
        for name in ("told", "holds", "__init__", "__bool__", "__repr__"):
            self.assertIn(name, vars(self.shape))

    def check_parameters(self):
        found = self.shape(*self.given.values())
        self.assertIs(found.holds(), True)
        for name, value in self.given.items():
            if name in ("tables", "others"):
                self.assertTrue(getattr(found, name) == value)
                continue
            self.assertIn(name, vars(self.shape))
            self.assertEqual(getattr(found, name)(), value)
            self.assertIs(getattr(found, name)().__class__, value.__class__)

    def check_shapes(self):
        for name in self.values():
            for odd in ODD_VALUES:
                found = self.made(**{name: odd})
                self.assertEqual(getattr(found, name)(), odd)
                self.assertIs(getattr(found, name)().__class__, odd.__class__)
                if not any(odd is value or odd == value for value in self.fitting.get(name, [])):
                    self.assertIs(found.holds(), False, (name, odd))
        if "web" in self.given:
            for text in ("", "cell a root\n", "cell a plain.0\n", "cell a strange\n", "cell z plain\ntie strange z z\n"):
                self.check(False, web=Network.read(text))
            for more in ("cell zz strange\n", "cell zz plain.0\n", "cell zz plain\ntie strange zz zz\n"):
                self.check(False, web=self.given["web"] | Network.read(more))

    def check_copies(self):
        given = {name: value.clone() if name == "web" else copy.deepcopy(value) for name, value in self.given.items()}
        self.check_copies_of(given, True)
        for name in self.values():
            for odd in ([["a"], ("b", ["c"])], {"plain": [{"a": ["b"]}]}):
                self.check_copies_of({**given, name: copy.deepcopy(odd)}, False)

    def check_copies_of(self, given, holds):
        """Check that nothing changes if what was given, and then what is returned, is changed."""
        given = {name: value.clone() if name == "web" else copy.deepcopy(value) for name, value in given.items()}
        found = self.shape(**given)
        names = [name for name in given if name not in ("tables", "others")]
        before = {name: found.web() if name == "web" else copy.deepcopy(given[name]) for name in names}
        for name in names:
            for value in (given[name], getattr(found, name)()):
                spoiled(value)
                if name == "web":
                    value.add_cell("spoiled", "plain")
        for name in names:
            self.assertEqual(getattr(found, name)(), before[name])
        self.assertIs(found.holds(), holds)

    def values(self):
        """Return the names of the parameters that may be any values."""
        return [name for name in self.given if name not in ("tables", "others", "web")]
