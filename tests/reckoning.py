"""Cases, tests and rules reckoned by other ways than the package's, and drawn kinds, cases and rules."""

import functools
import itertools
import operator

from seenrules.kinds import Kind

HOLDS = {"is": operator.eq, "not": operator.ne, "most": operator.le, "least": operator.ge}
WORDS = ["a", "b", "is", "if", "and", "from", "abcdef", "z"]
NUMBERS = [-9999, -9998, -1, 0, 1, 2, 5, 9998, 9999]
# One kind of each number of fields, with names that a text could mix up.
FIELDS = [
    [],
    [("x", "word")],
    [("n", "number")],
    [("and", "word"), ("n", "number")],
    [("n", "number"), ("m", "number")],
    [("a", "word"), ("b", "word"), ("if", "number")],
    [("n", "number"), ("is", "word"), ("from", "word"), ("m", "number")],
    [("k", "number"), ("l", "number"), ("m", "number"), ("n", "number")],
]


def kinds(answers=("no", "yes", "if")):
    """Return kinds with zero to four fields and all widths."""
    return [Kind(fields, answers, width=width) for fields in FIELDS for width in (0, 1, 2)]


def is_met(kind, case, test):
    """Tell whether a case meets a test."""
    name, sign, limit = test
    return HOLDS[sign](dict(zip(kind.names(), case))[name], limit)


def are_met(kind, case, tests):
    """Tell whether a case meets all tests of a list."""
    return all(is_met(kind, case, test) for test in tests)


def decider(kind, rules, case):
    """Return the index of the rule that decides a case."""
    return next(at for at, (tests, answer) in enumerate(rules) if are_met(kind, case, tests))


def values_beside(kind, cases, tests):
    """Return for each field values that stand for all its values, as far as cases and tests can tell them apart."""
    columns = []
    for place, (name, sort) in enumerate(kind.fields()):
        known = {case[place] for case in cases} | {test[2] for test in tests if test[0] == name}
        if sort == "word":
            columns.append(sorted(known | {"other", "others", "more"}))
        else:
            near = {number + step for number in known for step in (-1, 0, 1)} | {-9999, 9999}
            columns.append(sorted(number for number in near if -9999 <= number <= 9999))
    return columns


def cases_beside(kind, cases, tests):
    """Return cases that stand for all cases, as far as other cases and tests can tell them apart."""
    return list(itertools.product(*values_beside(kind, cases, tests)))


def tests_beside(kind, cases):
    """Return tests that stand for all tests, as far as cases can tell them apart."""
    tests = []
    for (name, sort), values in zip(kind.fields(), values_beside(kind, cases, [])):
        signs = ("is", "not") if sort == "word" else ("most", "least")
        tests += [(name, sign, value) for sign in signs for value in values]
    return tests


def conditions_beside(kind, cases):
    """Return conditions that stand for all conditions of the kind's width, as far as cases can tell them apart."""
    tests = tests_beside(kind, cases)
    return [list(chosen) for length in range(kind.width + 1) for chosen in itertools.combinations(tests, length)]


def drawn_value(draw, sort):
    """Return a value of a sort, one of a few so that equal ones are frequent."""
    return draw.choice(WORDS if sort == "word" else NUMBERS)


def drawn_case(draw, kind):
    """Return a case of a kind."""
    return tuple(drawn_value(draw, sort) for name, sort in kind.fields())


def drawn_test(draw, kind):
    """Return a test of a kind that has fields."""
    name, sort = draw.choice(kind.fields())
    return (name, draw.choice(("is", "not") if sort == "word" else ("most", "least")), drawn_value(draw, sort))


def drawn_tests(draw, kind, most):
    """Return a list of tests of a kind."""
    return [drawn_test(draw, kind) for count in range(draw.randint(0, most))] if kind.names() else []


def drawn_rules(draw, kind, count):
    """Return this many rules, the last one without tests."""
    rules = [(drawn_tests(draw, kind, kind.width), draw.choice(kind.answers())) for index in range(count - 1)]
    return [*rules, ([], draw.choice(kind.answers()))]


def drawn_entries(draw, kind, count):
    """Return this many entries."""
    return [(drawn_case(draw, kind), draw.choice(kind.answers())) for index in range(count)]


def met_sets(kind, cases):
    """Return all sets of indexes of cases that are those that meet some condition of the kind's width."""
    return known_met_sets(str(kind), tuple(cases))


@functools.lru_cache(maxsize=1000)
def known_met_sets(text, cases):
    """Return the sets for the kind with a text; they are asked for again and again with other answers."""
    kind = Kind.parse(text)
    sets = {frozenset(range(len(cases)))}
    tested = {frozenset(at for at, case in enumerate(cases) if is_met(kind, case, test)) for test in tests_beside(kind, cases)}
    for count in range(kind.width):
        sets |= {one & other for one in sets for other in tested}
    return frozenset(sets)


def are_core(kind, entries, indexes):
    """Tell whether a set of indexes is a core, by the definition."""
    sets = met_sets(kind, [case for case, answer in entries])
    return len(indexes) > 0 and all(
        any(entries[other][1] != entries[index][1] for other in met & indexes)
        for index in indexes
        for met in sets
        if index in met
    )


def greatest_core(kind, entries):
    """Return the greatest core as a list, by leaving out entries that cannot be in one."""
    sets = met_sets(kind, [case for case, answer in entries])
    left = frozenset(range(len(entries)))
    while True:
        bad = {at for at in left for met in sets if at in met and len({entries[one][1] for one in met & left}) == 1}
        if not bad:
            return sorted(left)
        left -= bad


def all_cores(kind, entries):
    """Return all cores, as sets of indexes."""
    sets = met_sets(kind, [case for case, answer in entries])
    found = []
    for length in range(1, len(entries) + 1):
        for chosen in map(frozenset, itertools.combinations(range(len(entries)), length)):
            if all(len({entries[at][1] for at in met & chosen}) != 1 for met in sets):
                found.append(chosen)
    return found


def can_be_explained(kind, entries):
    """Tell whether some rules explain the entries, by trying all rules in all orders."""
    sets = met_sets(kind, [case for case, answer in entries])
    known = {frozenset(): True}

    def explained(left):
        if left not in known:
            known[left] = False
            met_now = {met & left for met in sets if len({entries[at][1] for at in met & left}) == 1}
            known[left] = any(explained(left - met) for met in met_now)
        return known[left]

    return explained(frozenset(range(len(entries))))


def explains(rule_list, log):
    """Tell whether a rule list belongs to a log's kind and gives all its answers."""
    rules = rule_list.rules()
    same = rule_list.kind == log.kind
    return same and all(rules[decider(log.kind, rules, case)][1] == answer for case, answer in log.entries())


def entries_of_list(draw, kind, count):
    """Return this many entries with the answers of a drawn rule list."""
    rules = drawn_rules(draw, kind, draw.choice((1, 2, 4, 8)))
    cases = [drawn_case(draw, kind) for index in range(count)]
    return [(case, rules[decider(kind, rules, case)][1]) for case in cases]


def explained(log):
    """Tell whether some list explains a log, by looking for a core."""
    return not greatest_core(log.kind, log.entries())


def is_entailed(kind, entries, case, answer):
    """Tell whether each list that explains some entries gives a case an answer, by looking for cores."""
    others = [other for other in kind.answers() if other != answer]
    return all(greatest_core(kind, [*entries, (case, other)]) for other in others)


def entails_by_cores(log, other):
    """Tell whether a log entails all entries of another one."""
    return all(is_entailed(log.kind, log.entries(), case, answer) for case, answer in other.entries())
