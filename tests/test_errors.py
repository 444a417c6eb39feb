"""Tests of bestheard.errors: the classes, their bases, their attributes and their codes."""

import unittest

from bestheard import errors

BEST = {
    "InvalidField": "position", "InvalidTie": "position", "InvalidKind": "position",
    "InvalidHolding": "given", "InvalidRulebook": "line", "InvalidName": "given",
    "InvalidNetwork": "line", "InvalidState": "cell", "InvalidLook": "cell",
    "InvalidCount": "given", "InvalidCommand": "word", "InvalidLimit": "given",
    "InvalidPage": "line", "DuplicateCell": "name", "DuplicateTie": "tie",
    "KindsDiffer": "name", "BooksDiffer": None, "Unsettled": None, "Full": "limit",
    "EmptyHistory": None,
}
MISSING = {
    "UnknownCell": "name", "UnknownKind": "name", "UnknownTie": "name", "UnknownField": "name",
    "MissingTie": "tie", "UnknownMoment": "given",
}
PARAMETERS = {**BEST, **MISSING}
GIVEN = (3, 0, -1, 10 ** 29, True, False, None, "", "a", "a\nb", (), ("link", "a", "b"),
         (1, ("a", (None, True))), [], ["a", [1, ("b", [2])]])


def class_of(name):
    return getattr(errors, name)


def made(name, value=3):
    if PARAMETERS[name] is None:
        return class_of(name)()
    return class_of(name)(value)


def wrong_parameters(name):
    """Return calls that pass too much, too little or a wrong keyword."""
    error = class_of(name)
    calls = [lambda: error(1, 2), lambda: error(wrong=1), lambda: error(code="x")]
    if PARAMETERS[name] is None:
        return calls + [lambda: error(1)]
    return calls + [lambda: error()]


class ClassesTest(unittest.TestCase):
    def test_the_module_defines_these_classes_and_no_others(self):
        found = [name for name, value in vars(errors).items() if isinstance(value, type)]
        self.assertEqual(sorted(found), sorted(["BestError", "Missing", *PARAMETERS]))

    def test_each_class_is_defined_in_the_file_itself(self):
        for name in ["BestError", "Missing", *PARAMETERS]:
            self.assertEqual(class_of(name).__module__, "bestheard.errors")
            self.assertEqual(class_of(name).__name__, name)

    def test_direct_base_classes(self):
        self.assertEqual(errors.BestError.__bases__, (ValueError,))
        self.assertEqual(errors.Missing.__bases__, (LookupError,))
        for name in BEST:
            self.assertEqual(class_of(name).__bases__, (errors.BestError,), name)
        for name in MISSING:
            self.assertEqual(class_of(name).__bases__, (errors.Missing,), name)

    def test_none_is_caught_as_another_one(self):
        for name in PARAMETERS:
            for other in PARAMETERS:
                caught = isinstance(made(name), class_of(other))
                self.assertEqual(caught, name == other, (name, other))

    def test_the_two_families_are_apart(self):
        for name in BEST:
            self.assertNotIsInstance(made(name), LookupError)
        for name in MISSING:
            self.assertNotIsInstance(made(name), ValueError)
            self.assertNotIsInstance(made(name), (KeyError, IndexError))

    def test_each_is_caught_by_its_base(self):
        for name in PARAMETERS:
            base = errors.BestError if name in BEST else errors.Missing
            with self.assertRaises(base) as caught:
                raise made(name)
            self.assertIs(caught.exception.__class__, class_of(name))


class AttributesTest(unittest.TestCase):
    def test_code_is_the_name_of_the_class(self):
        for name in PARAMETERS:
            self.assertEqual(made(name).code, name)

    def test_the_bases_have_no_code(self):
        for base in (errors.BestError, errors.Missing):
            self.assertFalse(hasattr(base("x"), "code"))

    def test_made_by_position(self):
        for name, parameter in PARAMETERS.items():
            for value in GIVEN if parameter is not None else ():
                error = class_of(name)(value)
                self.assertEqual(getattr(error, parameter), value, name)
                self.assertIs(getattr(error, parameter).__class__, value.__class__, name)
                self.assertEqual(error.code, name)

    def test_made_by_keyword(self):
        for name, parameter in PARAMETERS.items():
            for value in GIVEN if parameter is not None else ():
                error = class_of(name)(**{parameter: value})
                self.assertEqual(getattr(error, parameter), value, name)
                self.assertEqual(error.code, name)

    def test_attributes_belong_to_each_error_alone(self):
        for name, parameter in PARAMETERS.items():
            if parameter is not None:
                one, other = made(name, 1), made(name, 2)
                self.assertEqual([getattr(one, parameter), getattr(other, parameter)], [1, 2])

    def test_it_has_no_other_attributes(self):
        for name, parameter in PARAMETERS.items():
            expected = {"code"} if parameter is None else {"code", parameter}
            self.assertEqual(set(vars(made(name))), expected, name)

    def test_an_error_copies_what_it_is_given(self):
        for name, parameter in PARAMETERS.items():
            if parameter is None:
                continue
            inner = ["b"]
            value = ["a", (1, inner)]
            error = class_of(name)(value)
            inner.append("c")
            value.append("d")
            self.assertEqual(getattr(error, parameter), ["a", (1, ["b"])], name)
            getattr(error, parameter)[1][1].append("e")
            self.assertEqual(value, ["a", (1, ["b", "c"]), "d"])

    def test_wrong_arguments(self):
        for name in PARAMETERS:
            for call in wrong_parameters(name):
                self.assertRaises(TypeError, call)


if __name__ == "__main__":
    unittest.main()
