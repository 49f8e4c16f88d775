"""Strikes of entries of a log, and the rule list that they make."""

from seenrules.errors import OtherKind
from seenrules.known import Known
from seenrules.logs import check_log
from seenrules.meeting import first_unmet, values_by_name
from seenrules.rulelists import RuleList, check_list, decider
from seenrules.tables import Table, indexes_of, struck_in


def strikes(log):
    """Yield tuples of a condition, an answer, and the indexes of the entries that are struck by it."""
    check_log(log)
    table = Table(log)
    values = [values_by_name(log.kind, case) for case, answer in log.entries()]
    for met, here in struck_in(table.sets, table.rivals, table.entered)[1]:
        tests, answer = table.rule_of(met, here, table.words)
        indexes = indexes_of(here)
        while indexes:
            # A strike has tests of a case that it strikes: where this one has another number, they are narrower.
            own = [(name, operator, values[indexes[0]][name]) for name, operator, value in tests]
            found = [index for index in indexes if first_unmet(values[index], own) is None]
            indexes = [index for index in indexes if index not in found]
            yield (own, answer, found)


def rule_list_of(kind, rules):
    """Return the rule list of some rules, of which the last one decides what the other ones leave."""
    last_answer = rules[-1][1] if rules else kind.answers()[0]
    return RuleList(kind, Known((*rules[:-1], ((), last_answer))))


def rules_for(log):
    """Return a rule list that explains a log, or None if there is none."""
    check_log(log)
    table = Table(log)
    left, struck = struck_in(table.sets, table.rivals, table.entered)
    return None if left else rule_list_of(log.kind, table.rules_of(struck, table.words))


def wrong_at(rules, kind, entries):
    """Return the index of the first of some entries to whose case rules give another answer, or None."""
    for index, entry in enumerate(entries):
        if rules[decider(rules, values_by_name(kind, entry[0]))][1] != entry[1]:
            return index
    return None


def first_wrong(rules, log):
    """Return the index of the first entry to whose case a rule list gives another answer, or None."""
    check_list(rules)
    check_log(log)
    if rules.kind != log.kind:
        raise OtherKind(log)
    return wrong_at(rules.rules(), log.kind, log.entries())


def is_explained_by(kind, entries, value):
    """Tell whether any value is a rule list of a kind that gives some entries their answers."""
    return isinstance(value, RuleList) and value.kind == kind and wrong_at(value.rules(), kind, entries) is None
