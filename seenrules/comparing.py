"""Rule lists compared for all cases, and rules that make no difference.

The tests of rule lists divide the values of each field into groups. Cases with
values of the same groups meet the same rules, so one case for each choice of
groups stands for all cases.
"""

from seenrules.errors import NoRule, OtherKind, TooMany
from seenrules.meeting import first_unmet, values_by_name
from seenrules.rulelists import RuleList, check_list, decider
from seenrules.values import LARGEST_NUMBER, choices, first_other, is_integer, product

MOST_CASES = 2000


def tests_of(rule_list):
    """Return the list of all tests of a rule list."""
    return [test for tests, answer in rule_list.rules() for test in tests]


def word_of_each_group(tests):
    """Return a word of each group into which tests on one field divide the words."""
    words = sorted(set([word for name, operator, word in tests]))
    return [*words, first_other(words)]


def number_of_each_group(tests):
    """Return the least number of each group into which tests on one field divide the numbers."""
    starts = [number + 1 if operator == "most" else number for name, operator, number in tests]
    inner = [start for start in starts if start <= LARGEST_NUMBER]
    return sorted(set([-LARGEST_NUMBER, *inner]))


def value_of_each_group(field, tests):
    """Return a value of each group into which tests divide the values of a field."""
    name, sort = field
    own_tests = [test for test in tests if test[0] == name]
    return word_of_each_group(own_tests) if sort == "word" else number_of_each_group(own_tests)


def cases_of_groups(kind, tests):
    """Return a case for each choice of groups into which tests divide the values of the fields."""
    columns = [value_of_each_group(field, tests) for field in kind.fields()]
    size = product([len(values) for values in columns])
    if size > MOST_CASES:
        raise TooMany(size)
    return choices(columns)


def alike(one, other):
    """Return ("alike",), or ("unlike", case) with a case to which two rule lists give different answers."""
    check_list(one)
    check_list(other)
    if one.kind != other.kind:
        raise OtherKind(other)
    rules = one.rules()
    other_rules = other.rules()
    for case in cases_of_groups(one.kind, [*tests_of(one), *tests_of(other)]):
        values = values_by_name(one.kind, case)
        if rules[decider(rules, values)][1] != other_rules[decider(other_rules, values)][1]:
            return ("unlike", case)
    return ("alike",)


def met_rules(rules, values):
    """Return the tuple of the indexes of the rules whose tests a case with some values meets."""
    return tuple([index for index, rule in enumerate(rules) if first_unmet(values, rule[0]) is None])


def patterns(rule_list):
    """Return the list of the different tuples of indexes of rules that some case meets together."""
    rules = rule_list.rules()
    cases = cases_of_groups(rule_list.kind, tests_of(rule_list))
    return sorted(set([met_rules(rules, values_by_name(rule_list.kind, case)) for case in cases]))


def dead_rules(rule_list):
    """Return the indexes of the rules that decide no case."""
    check_list(rule_list)
    deciding = [pattern[0] for pattern in patterns(rule_list)]
    return [index for index in range(len(rule_list)) if index not in deciding]


def may_swap(rule_list, index):
    """Tell whether exchanging the rules index and index + 1 changes the answer to no case."""
    check_list(rule_list)
    if not is_integer(index, 0, len(rule_list) - 3):
        raise NoRule(index)
    # The order of the two counts only for cases that meet both of them and none before them.
    together = [pattern for pattern in patterns(rule_list) if pattern[:2] == (index, index + 1)]
    return len(together) == 0 or rule_list[index][1] == rule_list[index + 1][1]


def is_needed(index, found, answers):
    """Tell whether the answer to a case changes if a rule is removed; found are the patterns of the rules left."""
    behind = [pattern[1] for pattern in found if pattern[0] == index]
    return any([answers[other] != answers[index] for other in behind])


def shortened(rule_list):
    """Return a rule list that is alike, of some of the rules, of which none but the last can be removed."""
    check_list(rule_list)
    found = patterns(rule_list)
    rules = rule_list.rules()
    answers = [answer for tests, answer in rules]
    kept = [len(rules) - 1]
    # From the end: a rule that is needed stays needed if rules before it are removed, but not if rules behind it are.
    for index in range(len(rules) - 2, -1, -1):
        if is_needed(index, found, answers):
            kept = [index, *kept]
        else:
            found = [tuple([other for other in pattern if other != index]) for pattern in found]
    return RuleList(rule_list.kind, [rules[at] for at in kept])
