"""Cores of a log, which show that no rule list explains it."""

from seenrules.errors import DoesNotFit
from seenrules.logs import check_log
from seenrules.tables import Table, indexes_of, set_of
from seenrules.values import are_different, is_integer, is_list


def core_of(log):
    """Return the greatest core of a log, or an empty list if it has none."""
    check_log(log)
    table = Table(log)
    return indexes_of(table.left_in(table.everything))


def small_core(log):
    """Return a core of a log that contains no other core, or an empty list if the log has none."""
    check_log(log)
    table = Table(log)
    core = table.left_in(table.everything)
    # Once is enough: an entry without which no core was left is needed for each smaller core, too.
    for index in indexes_of(core):
        core = table.left_in(core & ~(1 << index)) or core
    return indexes_of(core)


def are_indexes(log, value):
    """Tell whether any value is a list of different indexes of entries of a log."""
    if not is_list(value) or not all([is_integer(item, 0, len(log) - 1) for item in value]):
        return False
    return are_different(value)


def is_core(log, value):
    """Tell whether any value is a list of the indexes of a core of a log, in any order."""
    check_log(log)
    if not are_indexes(log, value) or len(value) == 0:
        return False
    chosen = set_of(value)
    return Table(log).left_in(chosen) == chosen


def check_explained(log):
    """Raise DoesNotFit with a core of a log if it has one."""
    core = core_of(log)
    if core:
        raise DoesNotFit(core)
