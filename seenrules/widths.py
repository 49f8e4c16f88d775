"""The least width that explains a log, and the fields that are needed."""

from seenrules.cores import check_explained, core_of
from seenrules.kinds import MOST_WIDTH
from seenrules.logs import check_log
from seenrules.stripping import rule_list_of
from seenrules.tables import Table, indexes_of, struck_in


def least_width(log):
    """Return ("width", width, rules, core) with the least width that explains a log, or ("none", core)."""
    check_log(log)
    core = None
    for width in range(MOST_WIDTH + 1):
        other = log.with_width(width)
        table = Table(other)
        left, struck = struck_in(table.sets, table.rivals, table.entered)
        if left == 0:
            return ("width", width, rule_list_of(other.kind, table.rules_of(struck, table.words)), core)
        core = indexes_of(left)
    return ("none", core)


def needed_fields(log):
    """Return tuples of a field that no list can do without and a core of the log without this field."""
    check_log(log)
    check_explained(log)
    names = log.kind.names()
    cores = [(name, core_of(log.projected([other for other in names if other != name]))) for name in names]
    return [(name, core) for name, core in cores if core]
