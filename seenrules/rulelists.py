"""Rule lists: the first rule whose tests a case meets decides it."""

from seenrules.errors import InvalidList, InvalidRules, InvalidText, NoRule
from seenrules.kinds import check_case, check_kind
from seenrules.known import Known
from seenrules.meeting import first_unmet, values_by_name
from seenrules.values import is_integer, is_list
from seenrules.writing import read_rule, rule_text

MOST_RULES = 24


def is_rule(kind, value):
    """Tell whether any value is a rule of a kind."""
    if not isinstance(value, tuple) or len(value) != 2:
        return False
    tests, answer = value
    if not is_list(tests) or len(tests) > kind.width or not all([kind.is_test(test) for test in tests]):
        return False
    return answer in kind.answers()


def are_rules(kind, value):
    """Tell whether any value is a list of rules for a rule list of a kind."""
    if not is_list(value) or not 1 <= len(value) <= MOST_RULES:
        return False
    return all([is_rule(kind, item) for item in value]) and len(value[-1][0]) == 0


def kept_rules(rules):
    """Return rules as a rule list keeps them: as tuples, because it never changes."""
    return tuple([(tuple(tests), answer) for tests, answer in rules])


def checked_rules(kind, value):
    """Return the rules of a rule list as it keeps them, or raise an exception if any value is no list of them."""
    if not are_rules(kind, value):
        raise InvalidRules(value)
    return kept_rules(value)


def read_rules(kind, lines):
    """Return the tuple of the rules of a rule list that some lines show, or None."""
    rules = [read_rule(kind, line) for line in lines]
    return kept_rules(rules) if are_rules(kind, rules) else None


def decider(rules, values):
    """Return the index of the rule that decides a case with some values, one for the name of each field."""
    index = 0
    # This ends, as each case meets the last rule.
    while first_unmet(values, rules[index][0]) is not None:
        index += 1
    return index


class RuleList:
    """Rules in an order, the last one without tests."""

    def __init__(self, kind, rules):
        check_kind(kind)
        self.own_kind = kind
        self.own_rules = rules.rows if isinstance(rules, Known) else checked_rules(kind, rules)

    @property
    def kind(self):
        """The kind of the cases."""
        return self.own_kind

    def rules(self):
        """Return the list of the rules, tuples of a list of tests and an answer."""
        return [(list(tests), answer) for tests, answer in self.own_rules]

    def __len__(self):
        return len(self.own_rules)

    def __getitem__(self, at):
        """Return the rule at an index."""
        if not is_integer(at, 0, len(self.own_rules) - 1):
            raise NoRule(at)
        tests, answer = self.own_rules[at]
        return (list(tests), answer)

    def __iter__(self):
        raise TypeError("iterate over rules() instead")

    def __eq__(self, other):
        return isinstance(other, RuleList) and self.own_kind == other.own_kind and self.own_rules == other.own_rules

    def __call__(self, case):
        """Return the answer to a case."""
        return self.own_rules[self.decided_by(case)][1]

    def decided_by(self, case):
        """Return the index of the rule that decides a case."""
        check_case(self.own_kind, case)
        return decider(self.own_rules, values_by_name(self.own_kind, case))

    def steps(self, case):
        """Yield for each rule up to the deciding one its index and its first test that a case does not meet."""
        check_case(self.own_kind, case)
        values = values_by_name(self.own_kind, case)
        for index, rule in enumerate(self.own_rules):
            unmet = first_unmet(values, rule[0])
            yield (index, unmet)
            if unmet is None:
                return

    def __str__(self):
        return "\n".join([rule_text(rule) for rule in self.own_rules])

    @classmethod
    def parse(cls, kind, text):
        """Return the rule list of a kind with a text as str gives it."""
        check_kind(kind)
        rules = read_rules(kind, text.split("\n")) if isinstance(text, str) else None
        if rules is None:
            raise InvalidText(text)
        return cls(kind, Known(rules))


def check_list(value):
    """Raise InvalidList for any value that is not a rule list."""
    if not isinstance(value, RuleList):
        raise InvalidList(value)
