"""How often the rules were changed at least, and where: histories of a log, and windows against them."""

from seenrules.cores import is_core_in
from seenrules.logs import check_log
from seenrules.stripping import is_explained_by
from seenrules.tables import Table
from seenrules.values import check_integer, is_integer, is_list
from seenrules.walks import history_of, is_stopped, starts_back, walk_of, windows_of

MOST_CHANGES = 16


def check_changes(value):
    """Raise InvalidInteger for any value that is not a number of changes."""
    check_integer(value, 0, MOST_CHANGES)


def fits(log, *, changes=0):
    """Return ("fits", cuts, lists), a history with at most so many changes, or ("stuck", windows)."""
    check_log(log)
    check_changes(changes)
    table = Table(log)
    stretches = walk_of(table, changes + 1)
    if is_stopped(stretches):
        return ("stuck", windows_of(stretches))
    cuts, lists = history_of(table, table.words, stretches)
    return ("fits", cuts, lists)


def fewest(log):
    """Return the fewest changes of a history of a log, its cuts, its lists, and as many windows as changes."""
    check_log(log)
    table = Table(log)
    stretches = walk_of(table, len(log))
    cuts, lists = history_of(table, table.words, stretches)
    return (len(cuts), cuts, lists, windows_of(stretches))


def ranges(log):
    """Return for each cut of the histories with the fewest changes its least and its greatest position."""
    check_log(log)
    table = Table(log)
    greatest = [start for start, struck, core in walk_of(table, len(log))[1:]]
    if not greatest:
        return []
    least = starts_back(table)[1:-1]
    return list(zip(least[::-1], greatest))


def are_cuts(count, value):
    """Tell whether any value is a list of cuts of so many entries."""
    if not is_list(value) or not all([is_integer(item, 1, count - 1) for item in value]):
        return False
    return all([one < other for one, other in zip(value, value[1:])])


def is_history_of(kind, entries, cuts, lists):
    """Tell whether any two values are a history of the entries of a kind."""
    if not are_cuts(len(entries), cuts) or not is_list(lists) or len(lists) != len(cuts) + 1:
        return False
    bounds = [0, *cuts, len(entries)]
    for at, item in enumerate(lists):
        if not is_explained_by(kind, entries[bounds[at] : bounds[at + 1]], item):
            return False
    return True


def is_history(log, cuts, lists):
    """Tell whether any two values are a history of a log."""
    check_log(log)
    return is_history_of(log.kind, log.entries(), cuts, lists)


def are_windows_in(table, rivals, value):
    """Tell whether any value is a list of windows, if the answers have these rivals."""
    if not is_list(value) or len(value) == 0 or not all([is_core_in(table, rivals, item) for item in value]):
        return False
    return all([max(one) <= min(other) for one, other in zip(value, value[1:])])


def are_windows(log, value):
    """Tell whether any value is a list of windows of a log, the indexes of each in any order."""
    check_log(log)
    table = Table(log)
    return are_windows_in(table, table.rivals, value)
