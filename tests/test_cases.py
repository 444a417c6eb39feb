"""Tests of bestheard.cases: the lines of cases, and what programs make of holdings."""

import copy
import itertools
import re
import string
import unittest

from bestheard import cases
from bestheard.cases import applied, case_text, read_case

PAIRS = [
    ("when always do keep", ((), ())),
    ("when always do drop", ((), None)),
    ("when always do age+", ((), (("age", "+"),))),
    ("when always do age:2", ((), (("age", "2"),))),
    ("when age=2 do drop", ((("age", "=", "2"),), None)),
    ("when age!2 do keep", ((("age", "!", "2"),), ())),
    ("when age<2 do keep", ((("age", "<", "2"),), ())),
    ("when age>2 do keep", ((("age", ">", "2"),), ())),
    ("when age=0 and via!b do age+, via:a",
     ((("age", "=", "0"), ("via", "!", "b")), (("age", "+"), ("via", "a")))),
    ("when a=0 and b!1 and c<2 and d>3 and e=4 and f!5 do a+, b:1, c+, d:3, e+, f:5",
     ((("a", "=", "0"), ("b", "!", "1"), ("c", "<", "2"), ("d", ">", "3"), ("e", "=", "4"),
       ("f", "!", "5")),
      (("a", "+"), ("b", "1"), ("c", "+"), ("d", "3"), ("e", "+"), ("f", "5")))),
    ("when a=1 and a=1 and a=1 and a=1 and a=1 and a=1 do drop", ((("a", "=", "1"),) * 6, None)),
    ("when always do a+, a+, a+, a+, a+, a+", ((), (("a", "+"),) * 6)),
    ("when abcdefgh=a1b2c3d4 do abcdefgh:12345678, abcdefgh+",
     ((("abcdefgh", "=", "a1b2c3d4"),), (("abcdefgh", "12345678"), ("abcdefgh", "+")))),
    # Fields and options that are called like the words of a line.
    ("when do=do and and!and do do:do, do+", ((("do", "=", "do"), ("and", "!", "and")),
                                              (("do", "do"), ("do", "+")))),
    ("when always=always do keep:keep, drop+", ((("always", "=", "always"),),
                                                (("keep", "keep"), ("drop", "+")))),
    ("when when<when do when:when", ((("when", "<", "when"),), (("when", "when"),))),
]

NO_LINES = [
    "", " ", "\n", "when", "when ", "when do", "when  do ", "when always", "when always do",
    "when always do ", "always do keep", "do keep", "keep", "drop",
    # Spaces too many or missing.
    " when always do keep", "when always do keep ", "when  always do keep", "when always  do keep",
    "when always do  keep", "whenalways do keep", "when alwaysdo keep", "when always dokeep",
    "when a =1 do keep", "when a= 1 do keep", "when a=1  and b=2 do keep",
    "when a=1 and  b=2 do keep", "when a=1and b=2 do keep", "when a=1 andb=2 do keep",
    "when always do a+,b+", "when always do a+,  b+", "when always do a+ , b+",
    "when always do a: 1", "when always do a :1", "when always do a +",
    # Parts too many or missing.
    "when a=1 and do keep", "when and a=1 do keep", "when a=1 and b=2 and do keep",
    "when a=1, b=2 do keep", "when a=1 b=2 do keep", "when always and a=1 do keep",
    "when a=1 and always do keep", "when always and always do keep", "when a=1 do keep do drop",
    "when always do a+, ", "when always do , a+", "when always do a+, , b+", "when always do ,",
    "when always do a+ and b+", "when always do a+ b+", "when always do keep, a+",
    "when always do a+, keep", "when always do drop, a+", "when always do a+, drop",
    "when always do keep, keep", "when always when always do keep", "when do keep",
    "when a=1 and b=1 and c=1 and d=1 and e=1 and f=1 and g=1 do keep",
    "when always do a+, b+, c+, d+, e+, f+, g+",
    "when a=1 and a=1 and a=1 and a=1 and a=1 and a=1 and a=1 do drop",
    "when always do a:1, a:1, a:1, a:1, a:1, a:1, a:1",
    # Wrong signs.
    "when a1 do keep", "when a do keep", "when a==1 do keep", "when a!=1 do keep",
    "when a<=1 do keep", "when a>=1 do keep", "when a<>1 do keep", "when a:1 do keep",
    "when a+ do keep", "when a+1 do keep", "when a-1 do keep", "when a~1 do keep",
    "when a=1=2 do keep", "when a=1<2 do keep", "when a=1! do keep", "when =a=1 do keep",
    "when a= do keep", "when =1 do keep", "when = do keep", "when a=+ do keep",
    "when always do a", "when always do a1", "when always do a=1", "when always do a-",
    "when always do a++", "when always do +", "when always do +a", "when always do a+1",
    "when always do a:+", "when always do a:1+", "when always do a::1", "when always do a:1:2",
    "when always do a:", "when always do :1", "when always do :", "when always do :+",
    # Wrong names and options.
    "when A=1 do keep", "when a1=1 do keep", "when a_b=1 do keep", "when abcdefghi=1 do keep",
    "when a=A do keep", "when a=1.5 do keep", "when a=123456789 do keep", "when a=a_b do keep",
    "when always do A:1", "when always do a1:1", "when always do abcdefghi:1",
    "when always do a:B", "when always do a:123456789", "when always do a:-1",
    "when always do A+", "when always do a1+", "when always do abcdefghi+",
    # Other letters and line feeds.
    "When always do keep", "WHEN always do keep", "when Always do keep", "when always Do keep",
    "when always do Keep", "when always do Drop", "when always do keep\n", "\nwhen always do keep",
    "when always\ndo keep", "when\nalways do keep", "when always do\nkeep", "when a=1\n do keep",
    "when a=1 and\nb=2 do keep", "when always do a+\n", "when always do a:1\n",
    "when always do a+,\nb+", "when always do drop\n", "when always do keep\nwhen always do keep",
    "when a=1 do keep.", "when always do nothing", "if always do keep",
]

TEST = "[a-z]{1,8}[=!<>][a-z0-9]{1,8}"
STEP = "[a-z]{1,8}(?::[a-z0-9]{1,8}|[+])"
LINE = re.compile(f"when (?:always|{TEST}(?: and {TEST}){{0,5}}) do "
                  f"(?:drop|keep|{STEP}(?:, {STEP}){{0,5}})")

AGE = ("age", ("0", "1", "2"))
VIA = ("via", ("a", "b"))
FIELDS = [AGE, VIA]
ALL_VALUES = [(age, via) for age in AGE[1] for via in VIA[1]]


def program_of(*lines):
    return tuple(read_case(line) for line in lines)


def made_of_all(*lines):
    """Return what a program makes of all values, in their order."""
    program = program_of(*lines)
    return [applied(FIELDS, program, value) for value in ALL_VALUES]


def near_lines(line):
    """Return the strings that differ from a line at one place."""
    signs = "aA1=!<>+:, \n"
    found = [line[:at] + line[at + 1:] for at in range(len(line))]
    for sign in signs:
        found += [line[:at] + sign + line[at:] for at in range(len(line) + 1)]
        found += [line[:at] + sign + line[at + 1:] for at in range(len(line))]
    return found


class LinesTest(unittest.TestCase):
    def test_text_of_a_case(self):
        for line, case in PAIRS:
            self.assertEqual(case_text(case), line)

    def test_case_of_a_text(self):
        for line, case in PAIRS:
            self.assertEqual(read_case(line), case)

    def test_cases_consist_of_tuples(self):
        for line, _ in PAIRS:
            tests, steps = found = read_case(line)
            for part in (found, tests, *tests) + (() if steps is None else (steps, *steps)):
                self.assertIsInstance(part, tuple)

    def test_no_lines(self):
        for line in NO_LINES:
            self.assertIsNone(read_case(line), repr(line))

    def test_from_none_to_seven_tests_and_steps(self):
        for many, more in itertools.product(range(1, 8), range(1, 8)):
            tests = " and ".join(["age=1"] * many)
            steps = ", ".join(["age+", "via:a", "age:0", "via+", "age+", "age+", "via:b"][:more])
            line = f"when {tests} do {steps}"
            found = read_case(line)
            if many > 6 or more > 6:
                self.assertIsNone(found, line)
            else:
                self.assertEqual([len(found[0]), len(found[1])], [many, more])
                self.assertEqual(case_text(found), line)

    def test_names_and_options_at_their_bounds(self):
        for length, other in itertools.product(range(11), range(11)):
            field, option = "f" * length, "9" * other
            right = 1 <= length <= 8 and 1 <= other <= 8
            for sign in "=!<>":
                found = read_case(f"when {field}{sign}{option} do keep")
                self.assertEqual(found, (((field, sign, option),), ()) if right else None)
            found = read_case(f"when always do {field}:{option}")
            self.assertEqual(found, ((), ((field, option),)) if right else None)
            found = read_case(f"when always do {field}+")
            self.assertEqual(found, ((), ((field, "+"),)) if 1 <= length <= 8 else None)

    def test_signs(self):
        for sign in string.punctuation + " \n" + string.ascii_uppercase:
            found = read_case(f"when age{sign}1 do keep")
            self.assertEqual(found is not None, sign in "=!<>", repr(sign))
            found = read_case(f"when always do age{sign}1")
            self.assertEqual(found is not None, sign == ":", repr(sign))
            found = read_case(f"when always do age{sign}")
            self.assertEqual(found is not None, sign == "+", repr(sign))

    def test_strings_that_are_almost_lines(self):
        for line, _ in PAIRS:
            for near in near_lines(line):
                found = read_case(near)
                self.assertEqual(found is not None, LINE.fullmatch(near) is not None, repr(near))
                if found is not None:
                    self.assertEqual(case_text(found), near)

    def test_long_strings(self):
        self.assertIsNone(read_case("a" * 4000))
        self.assertIsNone(read_case("when " + "a" * 3990))
        self.assertIsNone(read_case("when always do " + "a+, " * 990 + "a+"))


class AppliedTest(unittest.TestCase):
    def test_example_of_the_document(self):
        fields = [("age", ("0", "1", "2")), ("via", ("a", "b"))]
        program = (read_case("when age=2 do drop"), read_case("when always do age+, via:b"))
        found = [program[0], applied(fields, program, ("1", "a")),
                 applied(fields, program, ("2", "a"))]
        self.assertEqual(found, [((("age", "=", "2"),), None), ("2", "b"), None])

    def test_signs(self):
        for sign, ages in (("=", "1"), ("!", "02"), ("<", "0"), (">", "2")):
            expected = [value if value[0] in ages else None for value in ALL_VALUES]
            self.assertEqual(made_of_all(f"when age{sign}1 do keep"), expected, sign)

    def test_signs_at_the_first_and_last_option(self):
        for sign, option, ages in (("<", "0", ""), (">", "0", "12"), ("<", "2", "01"),
                                   (">", "2", ""), ("=", "0", "0"), ("!", "2", "01")):
            expected = [value if value[0] in ages else None for value in ALL_VALUES]
            self.assertEqual(made_of_all(f"when age{sign}{option} do keep"), expected)

    def test_the_order_is_that_of_the_field(self):
        fields = [("rank", ("z", "m", "a", "10", "9"))]
        program = program_of("when rank<a do rank+", "when rank>a do rank:z", "when rank=a do keep")
        found = [applied(fields, program, (option,)) for option in fields[0][1]]
        self.assertEqual(found, [("m",), ("a",), ("a",), ("z",), ("z",)])

    def test_all_tests_of_a_case_must_hold(self):
        found = made_of_all("when age>0 and via=b and age<2 do keep")
        self.assertEqual(found, [None, None, None, ("1", "b"), None, None])

    def test_six_tests(self):
        found = made_of_all("when age!0 and age!0 and via=a and via!b and age>1 and age=2 do via+")
        self.assertEqual(found, [None, None, None, None, ("2", "b"), None])

    def test_each_of_six_tests_counts(self):
        right = ["age=1"] * 6
        for position in range(6):
            tests = right[:position] + ["age!1"] + right[position + 1:]
            self.assertEqual(made_of_all(f"when {' and '.join(tests)} do keep"), [None] * 6)

    def test_no_case_that_holds(self):
        found = made_of_all("when age=0 and via=b do keep", "when age=0 do via:b")
        self.assertEqual(found, [("0", "b"), ("0", "b"), None, None, None, None])
        self.assertEqual(made_of_all("when age<0 do keep"), [None] * 6)

    def test_the_first_case_that_holds_decides(self):
        self.assertEqual(made_of_all("when always do drop", "when always do keep"), [None] * 6)
        self.assertEqual(made_of_all("when always do keep", "when always do drop"), ALL_VALUES)
        found = made_of_all("when age=0 do age:1", "when age=1 do age:2", "when always do age:0")
        expected = [("1", "a"), ("1", "b"), ("2", "a"), ("2", "b"), ("0", "a"), ("0", "b")]
        self.assertEqual(found, expected)

    def test_eight_cases(self):
        lines = [f"when age={age} and via={via} do age:{age}" for age, via in ALL_VALUES]
        lines += ["when age=0 do drop", "when always do drop"]
        self.assertEqual(made_of_all(*lines), ALL_VALUES)
        lines = ["when age<0 do keep"] * 7 + ["when always do via:a"]
        self.assertEqual(made_of_all(*lines), [(age, "a") for age, _ in ALL_VALUES])

    def test_nothing_stays_nothing(self):
        for lines in (["when always do keep"], ["when always do drop"], ["when always do age:1"],
                      ["when age=0 do drop", "when always do age+"]):
            self.assertIsNone(applied(FIELDS, program_of(*lines), None))

    def test_plus_sets_the_option_behind_and_the_last_one_stays(self):
        found = made_of_all("when always do age+")
        self.assertEqual(found, [(str(min(int(age) + 1, 2)), via) for age, via in ALL_VALUES])
        found = made_of_all("when always do via+")
        self.assertEqual(found, [(age, "b") for age, _ in ALL_VALUES])

    def test_steps_follow_one_another(self):
        value = ("0", "a")
        for steps, expected in (("age+, age+", ("2", "a")), ("age+, age+, age+", ("2", "a")),
                                ("age:2, age+", ("2", "a")), ("age+, age:0", ("0", "a")),
                                ("age:0, age+", ("1", "a")), ("age:1, age:2", ("2", "a")),
                                ("age:2, age:1", ("1", "a")), ("age:1, via:b, age+", ("2", "b")),
                                ("via+, via:a, age:2, age:0, age+, via+", ("1", "b"))):
            program = program_of(f"when always do {steps}")
            self.assertEqual(applied(FIELDS, program, value), expected, steps)

    def test_the_tests_look_at_the_value_ahead_of_the_steps(self):
        found = made_of_all("when age=0 do age+", "when age=1 do age+", "when always do drop")
        expected = [("1", "a"), ("1", "b"), ("2", "a"), ("2", "b"), None, None]
        self.assertEqual(found, expected)

    def test_three_fields(self):
        fields = [("x", ("0", "1")), ("y", ("0", "1", "2")), ("z", ("0", "1", "2", "3"))]
        program = program_of("when y=1 and z>1 do x:1, z:0", "when x=0 do y+, z+")
        for value in itertools.product(*[options for _, options in fields]):
            x, y, z = value
            if y == "1" and z in ("2", "3"):
                expected = ("1", "1", "0")
            elif x == "0":
                expected = ("0", str(min(int(y) + 1, 2)), str(min(int(z) + 1, 3)))
            else:
                expected = None
            self.assertEqual(applied(fields, program, value), expected, value)

    def test_a_tuple_of_fields_and_arguments_by_name(self):
        program = program_of("when always do age+")
        found = applied(holding=("0", "b"), program=program, fields=tuple(FIELDS))
        self.assertEqual(found, ("1", "b"))
        self.assertEqual(case_text(case=((), None)), "when always do drop")
        self.assertEqual(read_case(line="when always do drop"), ((), None))

    def test_values_are_tuples(self):
        for found in made_of_all("when age=0 do keep", "when always do age+"):
            self.assertIsInstance(found, tuple)

    def test_arguments_stay_as_they_were(self):
        fields = [AGE, VIA]
        program = program_of("when age=2 do drop", "when always do age+, via:b")
        before = copy.deepcopy((fields, program))
        for holding in ALL_VALUES + [None]:
            first = applied(fields, program, holding)
            self.assertEqual(applied(fields, program, holding), first)
        self.assertEqual((fields, program), before)

    def test_the_functions_are_defined_in_this_file(self):
        for name in ("case_text", "read_case", "applied"):
            self.assertEqual(getattr(cases, name).__module__, "bestheard.cases")


if __name__ == "__main__":
    unittest.main()
