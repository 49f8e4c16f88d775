"""The cases that some values make, and the logs and questions that are enough to learn a rule list on them."""

from seenrules.cores import check_left
from seenrules.entailing import entails_all, new_cases, thinned
from seenrules.errors import InvalidValues, OtherKind
from seenrules.kinds import check_kind, is_of_sort
from seenrules.known import Known
from seenrules.logs import Log, check_log, check_room
from seenrules.questions import Question
from seenrules.rulelists import check_list
from seenrules.tables import Table
from seenrules.values import are_different, choices, is_list, product

MOST_SAMPLES = 16


def are_column(sort, value):
    """Tell whether any value is a list of different values of a field of words or of numbers."""
    return is_list(value) and all([is_of_sort(item, sort) for item in value]) and are_different(value)


def are_values(kind, value):
    """Tell whether any value is a dict of values for a kind."""
    if not isinstance(value, dict) or len(value) != len(kind.fields()):
        return False
    for name, sort in kind.fields():
        if name not in value or not are_column(sort, value[name]):
            return False
    return product([len(value[name]) for name in kind.names()]) <= MOST_SAMPLES


def check_values(kind, value):
    """Raise InvalidValues for any value that is not a dict of values for a kind."""
    if not are_values(kind, value):
        raise InvalidValues(value)


def cases_of_values(kind, values):
    """Return the list of all cases that have one of the given values in each field."""
    columns = [values[name] for name in kind.names()]
    # The other lists may be long if one of them is empty.
    return choices(columns) if product([len(column) for column in columns]) > 0 else []


def all_cases(kind, values):
    """Yield all cases that have one of the given values in each field."""
    check_kind(kind)
    check_values(kind, values)
    yield from cases_of_values(kind, values)


def entries_by(rule_list, values):
    """Return the entries with the answers of a rule list to all cases of some values."""
    return [(case, rule_list(case)) for case in cases_of_values(rule_list.kind, values)]


def sample(rule_list, values):
    """Return a log that is just enough to entail the answers of a rule list to all cases of some values."""
    check_list(rule_list)
    check_values(rule_list.kind, values)
    return thinned(Log(rule_list.kind, Known(tuple(entries_by(rule_list, values)))))


def learned(log, rule_list, values):
    """Tell whether a log entails the answers of a rule list to all cases of some values."""
    check_log(log)
    check_list(rule_list)
    check_values(log.kind, values)
    if rule_list.kind != log.kind:
        raise OtherKind(rule_list)
    check_room(log)
    entries = entries_by(rule_list, values)
    cases = new_cases(log, entries)
    table = Table(log, cases)
    check_left(table.left_in(table.entered))
    return entails_all(table, cases, entries)


def next_question(log, values):
    """Return the first case of some values that is open by a log, or None if there is none."""
    check_log(log)
    check_values(log.kind, values)
    check_room(log)
    # The answer to a case of the log is the one that it has there.
    cases = [case for case in cases_of_values(log.kind, values) if case not in log]
    table = Table(log, cases)
    check_left(table.left_in(table.entered))
    for at, case in enumerate(cases):
        if len(Question(table, len(log) + at, case).answers_by(table.entered)) > 1:
            return case
    return None
