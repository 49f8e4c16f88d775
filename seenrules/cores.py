"""Cores of a log, which show that no rule list explains it."""

from seenrules.errors import DoesNotFit
from seenrules.logs import check_log
from seenrules.tables import Table, can_strike, indexes_of, set_of
from seenrules.values import are_different, is_integer, is_list


def core_of(log):
    """Return the greatest core of a log, or an empty list if it has none."""
    check_log(log)
    table = Table(log)
    return indexes_of(table.left_in(table.entered))


def small_core(log):
    """Return a core of a log that contains no other core, or an empty list if the log has none."""
    check_log(log)
    table = Table(log)
    core = table.left_in(table.entered)
    # Once is enough: an entry without which no core was left is needed for each smaller core, too.
    for index in indexes_of(core):
        if core >> index & 1:
            core = table.left_in(core ^ (1 << index)) or core
    return indexes_of(core)


def are_indexes(count, value):
    """Tell whether any value is a list of different indexes of some entries, at least one."""
    if not is_list(value) or len(value) == 0 or not all([is_integer(item, 0, count - 1) for item in value]):
        return False
    return are_different(value)


def is_core_in(table, rivals, value):
    """Tell whether any value is a list of the indexes of a core, if the answers have these rivals."""
    return are_indexes(len(rivals) - 1, value) and not can_strike(table.sets, rivals, set_of(value))


def is_core(log, value):
    """Tell whether any value is a list of the indexes of a core of a log, in any order."""
    check_log(log)
    table = Table(log)
    return is_core_in(table, table.rivals, value)


def check_left(left):
    """Raise DoesNotFit with the core that all strikes left, if they left one."""
    if left:
        raise DoesNotFit(indexes_of(left))


def check_explained(log):
    """Raise DoesNotFit with a core of a log if it has one."""
    table = Table(log)
    check_left(table.left_in(table.entered))
