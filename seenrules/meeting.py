"""When a case meets tests, which tests of a case are the strongest, and when a test implies another."""

from seenrules.errors import InvalidTest, InvalidTests
from seenrules.kinds import check_case, check_kind
from seenrules.values import LARGEST_NUMBER, is_list

MOST_TESTS = 8


def holds(value, operator, limit):
    """Tell whether a value of a field stands in the relation of a test to the test's value."""
    if operator == "is":
        return value == limit
    if operator == "not":
        return value != limit
    return value <= limit if operator == "most" else value >= limit


def values_by_name(kind, case):
    """Return a dict from the name of each field to the value that a case has in it."""
    return dict(zip(kind.names(), case))


def first_unmet(values, tests):
    """Return the first of some tests that the values of a case do not meet, or None if they meet all."""
    for test in tests:
        name, operator, limit = test
        if not holds(values[name], operator, limit):
            return test
    return None


def meets(kind, case, tests):
    """Tell whether a case meets a list of at most eight tests."""
    check_kind(kind)
    check_case(kind, case)
    if not is_list(tests) or len(tests) > MOST_TESTS or not all([kind.is_test(test) for test in tests]):
        raise InvalidTests(tests)
    return first_unmet(values_by_name(kind, case), tests) is None


def strongest(kind, case):
    """Return the list of the strongest tests of a case, field by field."""
    check_kind(kind)
    check_case(kind, case)
    tests = []
    for field, value in zip(kind.fields(), case):
        name, sort = field
        operators = ["is"] if sort == "word" else ["most", "least"]
        tests.extend([(name, operator, value) for operator in operators])
    return tests


def conditions(kind, case):
    """Yield all conditions of different strongest tests of a case, shorter ones first."""
    tests = strongest(kind, case)
    yield []
    if kind.width >= 1:
        for test in tests:
            yield [test]
    if kind.width >= 2:
        for at, first in enumerate(tests):
            for second in tests[at + 1 :]:
                yield [first, second]


def span(operator, limit):
    """Return the least and the greatest number that meet a test of numbers."""
    return (-LARGEST_NUMBER, limit) if operator == "most" else (limit, LARGEST_NUMBER)


def number_implies(one, other):
    """Tell whether all numbers that meet the first of two tests of one field meet the second."""
    low, high = span(one[1], one[2])
    other_low, other_high = span(other[1], other[2])
    return other_low <= low and high <= other_high


def word_implies(one, other):
    """Tell whether all words that meet the first of two tests of one field meet the second."""
    if one[1] == "is":
        return holds(one[2], other[1], other[2])
    # There are more than two words, so all others than one meet no test but the same.
    return one == other


def is_met_by_all(test):
    """Tell whether every case meets a test."""
    return test[1] in ("most", "least") and span(test[1], test[2]) == (-LARGEST_NUMBER, LARGEST_NUMBER)


def implies(kind, one, other):
    """Tell whether every case that meets one test meets the other."""
    check_kind(kind)
    for test in (one, other):
        if not kind.is_test(test):
            raise InvalidTest(test)
    if one[0] != other[0]:
        return is_met_by_all(other)
    return word_implies(one, other) if kind.kind_of(one[0]) == "word" else number_implies(one, other)
