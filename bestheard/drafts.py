"""The text of a rulebook: its lines written, and its parts read line by line."""

from bestheard.cases import case_text, read_case
from bestheard.shapes import MOST_CASES, MOST_TIES, field_fits, is_case, is_value, kind_fits, name_fits


def rulebook_text(fields, ties, kinds):
    """Return the text of the rulebook with these parts."""
    lines = [" ".join(["field", name, *options]) for name, options in fields]
    for name, program in ties:
        lines.append("tie " + name)
        lines.extend([case_text(case) for case in program])
    for kind in kinds:
        lines.extend(_kind_lines(kind))
    return "".join([line + "\n" for line in lines])


def _kind_lines(kind):
    name, keys, taking, birth = kind
    lines = [" ".join(["cell", name, *[field + direction for field, direction in keys]])]
    if taking is not None:
        lines.extend([case_text(case) for case in taking])
    if birth is not None:
        lines.append(" ".join(["born", *birth]))
    return lines


class Draft:
    """The parts of a rulebook, as far as the lines of its text have been read."""

    def __init__(self):
        self._fields = []
        self._ties = []
        self._kinds = []

    def take(self, line):
        """Read the next line and tell whether it may stand there; a line that may not changes nothing."""
        word, _, rest = line.partition(" ")
        if word == "field":
            return self._take_field(rest.split(" "))
        if word == "tie":
            return self._take_tie(rest)
        if word == "when":
            return self._take_case(read_case(line))
        if word == "cell":
            return self._take_kind(rest.split(" "))
        if word == "born":
            return self._take_birth(tuple(rest.split(" ")))
        return False

    def is_whole(self):
        """Tell whether the lines so far are the text of a rulebook."""
        return len(self._kinds) > 0

    def parts(self):
        """Return the lists of the fields, the ties and the kinds."""
        return list(self._fields), list(self._ties), list(self._kinds)

    def _take_field(self, words):
        field = (words[0], tuple(words[1:]))
        if len(self._ties) > 0 or not field_fits(self._fields, field):
            return False
        self._fields.append(field)
        return True

    def _take_tie(self, name):
        if len(self._fields) == 0 or len(self._kinds) > 0 or self._waits_for_case():
            return False
        if not name_fits(self._ties, name, MOST_TIES):
            return False
        self._ties.append((name, ()))
        return True

    def _waits_for_case(self):
        return len(self._ties) > 0 and len(self._ties[-1][1]) == 0

    def _take_case(self, case):
        if not is_case(self._fields, case):
            return False
        if len(self._kinds) > 0:
            return self._take_case_of_kind(case)
        if len(self._ties) == 0 or len(self._ties[-1][1]) >= MOST_CASES:
            return False
        name, program = self._ties[-1]
        self._ties[-1] = (name, (*program, case))
        return True

    def _take_case_of_kind(self, case):
        name, keys, taking, birth = self._kinds[-1]
        program = () if taking is None else taking
        if birth is not None or len(program) >= MOST_CASES:
            return False
        self._kinds[-1] = (name, keys, (*program, case), None)
        return True

    def _take_kind(self, words):
        keys = tuple([(word[:-1], word[-1:]) for word in words[1:]])
        kind = (words[0], keys, None, None)
        if len(self._ties) == 0 or self._waits_for_case() or not kind_fits(self._fields, self._kinds, kind):
            return False
        self._kinds.append(kind)
        return True

    def _take_birth(self, value):
        if len(self._kinds) == 0 or not is_value(self._fields, value):
            return False
        name, keys, taking, birth = self._kinds[-1]
        if birth is not None:
            return False
        self._kinds[-1] = (name, keys, taking, value)
        return True
