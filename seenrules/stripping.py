"""Strikes of entries of a log, and the rule list that they make."""

from seenrules.errors import OtherKind
from seenrules.logs import check_log
from seenrules.rulelists import RuleList, check_list
from seenrules.tables import Table, indexes_of


def strikes(log):
    """Yield tuples of a condition, an answer, and the indexes of the entries that are struck by it."""
    check_log(log)
    table = Table(log)
    for tests, answer, struck in table.strikes_in(table.everything):
        yield (list(tests), answer, indexes_of(struck))


def rules_for(log):
    """Return a rule list that explains a log, or None if there is none."""
    check_log(log)
    found = list(strikes(log))
    if sum([len(indexes) for tests, answer, indexes in found]) < len(log):
        return None
    if len(found) == 0:
        return RuleList(log.kind, [([], log.kind.answers()[0])])
    # All entries that are left for the last strike have its answer, so it needs no tests.
    rules = [(tests, answer) for tests, answer, indexes in found]
    return RuleList(log.kind, [*rules[:-1], ([], rules[-1][1])])


def first_wrong(rules, log):
    """Return the index of the first entry to whose case a rule list gives another answer, or None."""
    check_list(rules)
    check_log(log)
    if rules.kind != log.kind:
        raise OtherKind(log)
    for index, entry in enumerate(log.entries()):
        case, answer = entry
        if rules(case) != answer:
            return index
    return None


def is_explained_by(log, value):
    """Tell whether any value is a rule list of the kind of a log that explains the log."""
    return isinstance(value, RuleList) and value.kind == log.kind and first_wrong(value, log) is None
