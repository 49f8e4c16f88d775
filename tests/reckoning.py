"""Cases, tests and rules reckoned by other ways than the package's, and drawn kinds, cases and rules."""

import itertools
import operator

from seenrules.kinds import Kind

HOLDS = {"is": operator.eq, "not": operator.ne, "most": operator.le, "least": operator.ge}
WORDS = ["a", "b", "is", "if", "and", "from", "abcdef", "z"]
NUMBERS = [-9999, -9998, -1, 0, 1, 2, 5, 9998, 9999]
# One kind of each number of fields, with names that a text could mix up.
FIELDS = [
    [],
    [("x", "word")],
    [("n", "number")],
    [("and", "word"), ("n", "number")],
    [("n", "number"), ("m", "number")],
    [("a", "word"), ("b", "word"), ("if", "number")],
    [("n", "number"), ("is", "word"), ("from", "word"), ("m", "number")],
    [("k", "number"), ("l", "number"), ("m", "number"), ("n", "number")],
]


def kinds():
    """Return kinds with zero to four fields and all widths."""
    return [Kind(fields, ["no", "yes", "if"], width=width) for fields in FIELDS for width in (0, 1, 2)]


def is_met(kind, case, test):
    """Tell whether a case meets a test."""
    name, sign, limit = test
    return HOLDS[sign](dict(zip(kind.names(), case))[name], limit)


def are_met(kind, case, tests):
    """Tell whether a case meets all tests of a list."""
    return all(is_met(kind, case, test) for test in tests)


def decider(kind, rules, case):
    """Return the index of the rule that decides a case."""
    return next(at for at, (tests, answer) in enumerate(rules) if are_met(kind, case, tests))


def values_beside(kind, cases, tests):
    """Return for each field values that stand for all its values, as far as cases and tests can tell them apart."""
    columns = []
    for place, (name, sort) in enumerate(kind.fields()):
        known = {case[place] for case in cases} | {test[2] for test in tests if test[0] == name}
        if sort == "word":
            columns.append(sorted(known | {"other", "others", "more"}))
        else:
            near = {number + step for number in known for step in (-1, 0, 1)} | {-9999, 9999}
            columns.append(sorted(number for number in near if -9999 <= number <= 9999))
    return columns


def cases_beside(kind, cases, tests):
    """Return cases that stand for all cases, as far as other cases and tests can tell them apart."""
    return list(itertools.product(*values_beside(kind, cases, tests)))


def tests_beside(kind, cases):
    """Return tests that stand for all tests, as far as cases can tell them apart."""
    tests = []
    for (name, sort), values in zip(kind.fields(), values_beside(kind, cases, [])):
        signs = ("is", "not") if sort == "word" else ("most", "least")
        tests += [(name, sign, value) for sign in signs for value in values]
    return tests


def conditions_beside(kind, cases):
    """Return conditions that stand for all conditions of the kind's width, as far as cases can tell them apart."""
    tests = tests_beside(kind, cases)
    return [list(chosen) for length in range(kind.width + 1) for chosen in itertools.combinations(tests, length)]


def drawn_value(draw, sort):
    """Return a value of a sort, one of a few so that equal ones are frequent."""
    return draw.choice(WORDS if sort == "word" else NUMBERS)


def drawn_case(draw, kind):
    """Return a case of a kind."""
    return tuple(drawn_value(draw, sort) for name, sort in kind.fields())


def drawn_test(draw, kind):
    """Return a test of a kind that has fields."""
    name, sort = draw.choice(kind.fields())
    return (name, draw.choice(("is", "not") if sort == "word" else ("most", "least")), drawn_value(draw, sort))


def drawn_tests(draw, kind, most):
    """Return a list of tests of a kind."""
    return [drawn_test(draw, kind) for count in range(draw.randint(0, most))] if kind.names() else []


def drawn_rules(draw, kind, count):
    """Return this many rules, the last one without tests."""
    rules = [(drawn_tests(draw, kind, kind.width), draw.choice(kind.answers())) for index in range(count - 1)]
    return [*rules, ([], draw.choice(kind.answers()))]


def drawn_entries(draw, kind, count):
    """Return this many entries."""
    return [(drawn_case(draw, kind), draw.choice(kind.answers())) for index in range(count)]
