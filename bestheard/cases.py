"""Cases: their lines, and what the cases of a program make of a holding."""

from bestheard.words import is_name, is_option

SIGNS = ("=", "!", "<", ">")
NEXT = "+"
MOST_ITEMS = 6


def case_text(case):
    """Return the line of a case, without a line feed."""
    tests, steps = case
    return "when " + _tests_text(tests) + " do " + _steps_text(steps)


def _tests_text(tests):
    if len(tests) == 0:
        return "always"
    return " and ".join([field + sign + option for field, sign, option in tests])


def _steps_text(steps):
    if steps is None:
        return "drop"
    if len(steps) == 0:
        return "keep"
    return ", ".join([_step_text(field, option) for field, option in steps])


def _step_text(field, option):
    if option == NEXT:
        return field + NEXT
    return field + ":" + option


def read_case(line):
    """Return the case of a line, or None if the string is no line of a case."""
    if not line.startswith("when "):
        return None
    # No test contains a space, so the first " do " is the one behind the tests,
    # even if a field or an option is called do.
    before, _, behind = line.removeprefix("when ").partition(" do ")
    tests = _read_tests(before)
    if tests is None:
        return None
    if behind == "drop":
        return (tests, None)
    steps = _read_steps(behind)
    if steps is None:
        return None
    return (tests, steps)


def _read_tests(text):
    if text == "always":
        return ()
    return _all_read([_read_test(part) for part in text.split(" and ")])


def _read_steps(text):
    if text == "keep":
        return ()
    return _all_read([_read_step(part) for part in text.split(", ")])


def _all_read(items):
    if len(items) > MOST_ITEMS or None in items:
        return None
    return tuple(items)


def _read_test(text):
    for sign in SIGNS:
        # Neither names nor options contain a sign, so at most one sign splits the text rightly.
        field, _, option = text.partition(sign)
        if is_name(field) and is_option(option):
            return (field, sign, option)
    return None


def _read_step(text):
    if text.endswith(NEXT):
        field = text.removesuffix(NEXT)
        return (field, NEXT) if is_name(field) else None
    field, _, option = text.partition(":")
    return (field, option) if is_name(field) and is_option(option) else None


def applied(fields, program, holding):
    """Return the holding that a program makes of a holding."""
    if holding is None:
        return None
    for tests, steps in program:
        if all([_test_holds(fields, test, holding) for test in tests]):
            return None if steps is None else _after_steps(fields, steps, holding)
    return None


def _test_holds(fields, test, value):
    field, sign, option = test
    position = _position(fields, field)
    options = fields[position][1]
    present, asked = options.index(value[position]), options.index(option)
    if sign == "=":
        return present == asked
    if sign == "!":
        return present != asked
    if sign == "<":
        return present < asked
    return present > asked


def _after_steps(fields, steps, value):
    chosen = list(value)
    for field, option in steps:
        position = _position(fields, field)
        if option == NEXT:
            chosen[position] = _next_option(fields[position][1], chosen[position])
        else:
            chosen[position] = option
    return tuple(chosen)


def _next_option(options, option):
    behind = options.index(option) + 1
    return options[min(behind, len(options) - 1)]


def _position(fields, field):
    return [name for name, options in fields].index(field)
