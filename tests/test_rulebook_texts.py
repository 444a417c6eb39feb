"""Tests of the texts of rulebooks: written, read, and the first wrong line."""

import re
import unittest

from bestheard.cases import case_text
from bestheard.errors import InvalidRulebook
from bestheard.rulebooks import Rulebook
from samples import AGES, ANY_VALUES, ROADS, Maker

SMALL = "field a 0 1\ntie t\nwhen always do keep\ncell k\n"

# Completions: if lines can be followed by anything, one of these makes them a whole text.
ENDS = ["", "cell zz\n", "when always do keep\ncell zz\n", "tie zz\nwhen always do keep\ncell zz\n"]


def text_anew(book):
    """Return the text of a rulebook as point 8 says it."""
    text = ""
    for name, options in book.fields():
        text += f"field {name} {' '.join(options)}\n"
    for name, program in book.ties():
        text += f"tie {name}\n" + "".join(case_text(case) + "\n" for case in program)
    for name, keys, taking, birth in book.kinds():
        text += f"cell {name}" + "".join(f" {field}{direction}" for field, direction in keys) + "\n"
        text += "".join(case_text(case) + "\n" for case in taking or ())
        text += "" if birth is None else "born " + " ".join(birth) + "\n"
    return text


WORD, OPTION = "[a-z]{1,8}", "[a-z0-9]{1,8}"
CASE = (f"when (?:always|{WORD}[=!<>]{OPTION}(?: and {WORD}[=!<>]{OPTION}){{0,5}})"
        f" do (?:drop|keep|{WORD}(?::{OPTION}|[+])(?:, {WORD}(?::{OPTION}|[+])){{0,5}})\n")
WHOLE = re.compile(f"((?:field {WORD}(?: {OPTION}){{2,6}}\n){{1,3}})((?:tie {WORD}\n(?:{CASE}){{1,8}}){{1,4}})"
                   f"((?:cell {WORD}(?: {WORD}[+-]){{0,3}}\n(?:{CASE}){{0,8}}(?:born(?: {OPTION}){{1,3}}\n)?){{1,3}})")


def is_text(text):
    """Tell whether a text is that of a rulebook, worked out apart from the package's reading."""
    found = WHOLE.fullmatch(text)
    if not found:
        return False
    fields = [tuple(row.split(" ")[1:]) for row in found[1].splitlines()]
    options = {row[0]: row[1:] for row in fields}
    many = 1
    for row in fields:
        many *= len(row) - 1
        if len(set(row[1:])) < len(row) - 1:
            return False
    ties = re.findall("^tie (.*)$", found[2], re.M)
    kinds = re.findall("^cell ([a-z]*)(.*)$", found[3], re.M)
    kind_names = [name for name, _ in kinds]
    for names in (options, ties, kind_names):
        if len(set(names)) < len(names):
            return False
    if len(options) < len(fields) or many > 24:
        return False
    for field, option in re.findall("([a-z]+)[=!<>:]([a-z0-9]+)", found[2] + found[3]):
        if option not in options.get(field, ()):
            return False
    for _, keys in kinds:
        words = [word[:-1] for word in keys.split()]
        if len(set(words)) < len(words):
            return False
    if any(field not in options for field in re.findall("([a-z]+)[+-]", found[2] + found[3])):
        return False
    return all(len(row) == len(fields) and all(map(lambda option, field: option in field[1:], row, fields))
               for row in [births.split(" ") for births in re.findall("^born (.*)$", found[3], re.M)])


def wrong_line(text):
    """Return the number that InvalidRulebook has for a text, by the last sentences of point 8, or None."""
    lines = text.split("\n")[:-1]
    for number in range(len(lines)):
        begun = "".join(line + "\n" for line in lines[:number + 1])
        if not any(is_text(begun + end) for end in ENDS):
            return number
    return None if is_text(text) else len(lines)


class TextsTest(unittest.TestCase):
    def check_wrong(self, text, line):
        with self.assertRaises(InvalidRulebook, msg=text) as caught:
            Rulebook.read(text)
        self.assertEqual(caught.exception.line, line, text)
        self.assertIs(caught.exception.line.__class__, int)
        self.assertIs(Rulebook.is_valid(text), False)

    def check_as_told(self, text):
        line = wrong_line(text)
        if line is not None:
            return self.check_wrong(text, line)
        self.assertEqual(Rulebook.read(text).text(), text)
        return self.assertIs(Rulebook.is_valid(text), True)

    def test_there_and_back(self):
        for text in (AGES, ROADS, SMALL):
            book = Rulebook.read(text)
            self.assertEqual(book.text(), text)
            self.assertIs(Rulebook.is_valid(text), True)
            self.assertEqual(Rulebook(book.fields(), ties=book.ties(), kinds=book.kinds()), book)

    def test_made_ones_there_and_back(self):
        for seed in range(100):
            book = Maker(seed).book()
            self.assertEqual(book.text(), text_anew(book))
            self.assertEqual(Rulebook.read(book.text()), book)
            self.assertTrue(is_text(book.text()), book.text())

    def test_what_is_read(self):
        book = Rulebook.read(ROADS)
        self.assertEqual(book.fields(), [("far", ("0", "1", "2")), ("via", ("a", "b"))])
        self.assertEqual(book.ties()[1], ("path", (
            ((("via", "=", "a"), ("far", "<", "2")), (("via", "b"),)),
            ((("far", "!", "0"),), (("far", "+"), ("via", "a"))))))
        self.assertEqual(book.kinds(), [
            ("town", (("far", "+"), ("via", "-")), None, None),
            ("port", (("via", "-"), ("far", "-")),
             (((("far", ">", "1"),), None), ((("via", "=", "b"),), ()), ((), (("far", "+"),))), None),
            ("fort", (), (((), (("via", "b"),)),), ("1", "b"))])

    def test_methods_of_the_class(self):
        self.assertEqual(Rulebook.read(AGES).read(SMALL), Rulebook.read(SMALL))
        self.assertEqual(Rulebook.read(text=SMALL), Rulebook.read(SMALL))
        self.assertIs(Rulebook.read(AGES).is_valid(text=SMALL), True)

    def test_no_strings(self):
        for value in ANY_VALUES + [b"field", [SMALL], (SMALL,)]:
            if not isinstance(value, str):
                self.check_wrong(value, 0)

    def test_texts_that_end_too_early(self):
        lines = ROADS.split("\n")[:-1]
        for many in range(len(lines)):
            text = "".join(line + "\n" for line in lines[:many])
            if any(line.startswith("cell") for line in lines[:many]):
                self.assertEqual(Rulebook.read(text).text(), text)
            else:
                self.check_wrong(text, many)

    def test_characters_behind_the_last_line_feed(self):
        for text in (AGES, ROADS, SMALL):
            many = text.count("\n")
            for more in ("x", " ", "cell z", "field a 0 1", "born 0"):
                self.check_wrong(text + more, many)
            self.check_wrong(text[:-1], many - 1)
        self.check_wrong("x", 0)
        self.check_wrong("field a 0 1\nxyz", 1)
        self.check_wrong("fild a 0 1\nxyz", 0)

    def test_every_line_exchanged_put_in_doubled_left_out_or_moved(self):
        others = ["", " ", "field b 0 1", "field a 0 1", "tie t", "tie u", "when always do keep", "cell k", "cell k a+",
                  "cell plain", "born 0", "born 1 b", "network", "when far=2 do drop", "when age=2 do age+"]
        for text in (AGES, ROADS, SMALL):
            lines = text.split("\n")[:-1]
            for at, line in enumerate(lines):
                changed = [[*lines[:at], *lines[at + 1:]], [*lines[:at], line, *lines[at:]]]
                changed += [[*lines[:at], other, *lines[at + 1:]] for other in others + lines]
                changed += [[*lines[:at], other, *lines[at:]] for other in others + lines]
                rest = [*lines[:at], *lines[at + 1:]]
                changed += [[*rest[:to], line, *rest[to:]] for to in range(len(lines))]
                for found in changed:
                    self.check_as_told("".join(row + "\n" for row in found))

    def test_every_character_exchanged_put_in_or_left_out(self):
        for text in (AGES, SMALL):
            for at in range(len(text)):
                for other in " \na0Z+-:=!<,.~":
                    self.check_as_told(text[:at] + other + text[at + 1:])
                    self.check_as_told(text[:at] + other + text[at:])
                self.check_as_told(text[:at] + text[at + 1:])

    def test_made_ones_with_lines_of_others(self):
        for seed in range(60):
            maker = Maker(seed)
            lines = maker.book().text().split("\n")[:-1]
            for _ in range(20):
                found = list(lines)
                at, to = maker.number(0, len(lines) - 1), maker.number(0, len(lines) - 1)
                found[at] = maker.choice([lines[to], maker.choice(maker.book().text().split("\n"))])
                found.insert(to, maker.choice(lines))
                self.check_as_told("".join(row + "\n" for row in found))


class LinesTest(unittest.TestCase):
    """The lines of point 8, one after another, with the number of the wrong line."""

    check_wrong = TextsTest.check_wrong

    def check_lines(self, *lines, wrong):
        self.check_wrong("".join(line + "\n" for line in lines), wrong)

    def test_fields(self):
        for line in ("field", "field ", "field a", "field a 0", "field a 0 0", "field a 0 1 2 3 4 5 6", "field A 0 1",
                     "field a  0 1", "field  a 0 1", " field a 0 1", "field a 0 1 ", "field a 0,1", "field a1 0 1",
                     "field abcdefghi 0 1", "field a 0 123456789", "field a 0 B", "Field a 0 1", "fields a 0 1",
                     "", "tie t", "when always do keep", "cell k", "born 0"):
            self.check_wrong(line + "\n" + SMALL, 0)
        self.check_lines("field a 0 1", "field a x y", "tie t", wrong=1)
        self.check_lines("field a 0 1", "field b 0 1", "field c 0 1", "field d 0 1", wrong=3)
        self.check_lines("field a 0 1 2 3 4", "field b 0 1 2 3 4", wrong=1)
        self.check_lines("field a 0 1 2 3 4", "field b 0 1", "field c 0 1 2", wrong=2)
        self.check_lines("field a 0 1", "tie t", "field b 0 1", wrong=2)
        self.check_lines("field a 0 1", "tie t", "when always do keep", "field b 0 1", wrong=3)
        self.check_lines("field a 0 1", "tie t", "when always do keep", "cell k", "field b 0 1", wrong=4)

    def test_ties(self):
        for line in ("tie", "tie ", "tie  t", "tie t ", "tie T", "tie t t", "tie t1", "tie abcdefghi",
                     " tie t"):
            self.check_lines("field a 0 1", line, "when always do keep", "cell k", wrong=1)
        self.check_lines("field a 0 1", "tie t", "tie u", wrong=2)
        self.check_lines("field a 0 1", "tie t", "cell k", wrong=2)
        self.check_lines("field a 0 1", "tie t", "born 0", wrong=2)
        case = "when always do keep"
        self.check_lines("field a 0 1", "tie t", case, "tie t", case, "cell k", wrong=3)
        self.check_lines("field a 0 1", "tie a", case, "tie b", case, "tie c", case, "tie d", case, "tie e", wrong=9)
        self.check_lines("field a 0 1", "tie t", case, "cell k", "tie u", wrong=4)

    def test_cases(self):
        for line in ("when", "when always do", "when always do b+", "when b=0 do keep", "when a=2 do keep",
                     "when always do a:2", "when a=0  do keep", "when a=0 do keep ", "when a=0 and do keep",
                     "when " + " and ".join(["a=0"] * 7) + " do keep", "when always do " + ", ".join(["a+"] * 7),
                     "When always do keep", "whenever", "always do keep", "when a=0 do a+,a+", "when a = 0 do keep"):
            self.check_lines("field a 0 1", "tie t", line, "cell k", wrong=2)
            self.check_lines("field a 0 1", "tie t", "when always do keep", line, "cell k", wrong=3)
            self.check_lines("field a 0 1", "tie t", "when always do keep", "cell k", line, wrong=4)
        case = "when " + " and ".join(["a=0"] * 6) + " do " + ", ".join(["a+"] * 6)
        self.assertTrue(Rulebook.is_valid("".join(
            line + "\n" for line in ["field a 0 1", "tie t", *[case] * 8, "cell k", *[case] * 8, "born 0"])))
        self.check_lines("field a 0 1", "tie t", *[case] * 9, "cell k", wrong=10)
        self.check_lines("field a 0 1", "tie t", case, "cell k", *[case] * 9, wrong=12)
        self.check_lines("field a 0 1", case, wrong=1)
        self.check_lines(case, wrong=0)

    def test_kinds(self):
        start = ["field a 0 1", "field b 0 1", "tie t", "when always do keep"]
        for line in ("cell", "cell ", "cell K", "cell k ", "cell  k", "cell k a", "cell k +", "cell k a+ a-",
                     "cell k a+ a+", "cell k c+", "cell k a=", "cell k a+b-", "cell k a+  b-",
                     "cell k a +", "cell k a+,b-", "cell k.0",
                     "cell k a+ b- a+", "cell k -a", "cell k a++", "cell abcdefghi"):
            self.check_lines(*start, line, wrong=4)
            self.check_lines(*start, "cell z", line, wrong=5)
        self.check_lines(*start, "cell k", "cell k", wrong=5)
        self.check_lines(*start, "cell k", "cell l a+ b-", "cell m b-", "cell n", wrong=7)
        self.check_lines(*start, "cell k", "tie u", wrong=5)

    def test_births(self):
        start = ["field a 0 1", "field b x y", "tie t", "when always do keep", "cell k"]
        self.assertTrue(Rulebook.is_valid("".join(line + "\n" for line in [*start, "born 1 x", "cell l"])))
        for line in ("born", "born ", "born 1", "born x 1", "born 2 x", "born 1 x y", "born  1 x", "born 1  x",
                     "born 1 x ", "born 1,x", " born 1 x", "Born 1 x", "born None", "born nothing"):
            self.check_lines(*start, line, wrong=5)
        self.check_lines(*start, "born 1 x", "born 1 x", wrong=6)
        self.check_lines(*start, "born 1 x", "when always do keep", wrong=6)
        self.check_lines(*start[:4], "born 1 x", wrong=4)
        self.check_lines(*start[:2], "born 1 x", wrong=2)
        self.check_lines("born 1 x", wrong=0)

    def test_the_empty_text_and_empty_lines(self):
        self.check_wrong("", 0)
        self.check_wrong("\n", 0)
        self.check_wrong("\n" + SMALL, 0)
        self.check_wrong(SMALL + "\n", 4)
        self.check_wrong(SMALL + "network\n", 4)
        self.check_wrong(SMALL + SMALL, 4)


if __name__ == "__main__":
    unittest.main()
