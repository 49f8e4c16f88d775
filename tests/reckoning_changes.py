"""Histories and windows reckoned by trying all stretches of a log."""

from reckoning import are_core, explains, met_sets
from seenrules.logs import Log


def can_be_struck(sets, answers, stretch):
    """Tell whether all entries of a stretch can be struck, one set after another of those that some condition meets."""
    left = set(stretch)
    while struck := next((met & left for met in sets if len({answers[at] for at in met & left}) == 1), None):
        left -= struck
    return not left


def fitting_stretches(kind, entries):
    """Return a dict from each pair (first, last) to whether a list explains the entries first to last - 1."""
    count = len(entries)
    sets = met_sets(kind, [case for case, answer in entries])
    answers = [answer for case, answer in entries]
    pairs = [(first, last) for first in range(count + 1) for last in range(first, count + 1)]
    return {pair: can_be_struck(sets, answers, range(*pair)) for pair in pairs}


def changes_with_answers(kind, entries, at):
    """Return for each answer of an entry the fewest changes of a history, reckoned over all stretches."""
    sets = met_sets(kind, [case for case, answer in entries])
    found = {}
    known = {}
    for answer in kind.answers():
        answers = [answer if index == at else other for index, (case, other) in enumerate(entries)]
        best = [0]
        for last in range(1, len(entries) + 1):
            fitting = []
            for first in range(last):
                key = (first, last, answer) if first <= at < last else (first, last)
                if key not in known:
                    known[key] = can_be_struck(sets, answers, range(first, last))
                if known[key]:
                    fitting.append(best[first] + 1)
            best.append(min(fitting))
        found[answer] = best[-1] - 1
    return found


def histories_of(fitting, count, changes):
    """Return all lists of just so many cuts of so many entries whose stretches all fit."""
    found = [[]]
    for step in range(changes):
        found = [
            [*cuts, cut]
            for cuts in found
            for cut in range((cuts[-1] if cuts else 0) + 1, count)
            if fitting[cuts[-1] if cuts else 0, cut]
        ]
    return [cuts for cuts in found if fitting[cuts[-1] if cuts else 0, count]]


def least_changes(fitting, count):
    """Return the fewest changes with which the stretches of so many entries fit."""
    best = [0] + [None] * count
    for last in range(1, count + 1):
        best[last] = min(best[first] + 1 for first in range(last) if fitting[first, last])
    return max(best[count] - 1, 0)


def is_history_of(log, cuts, lists):
    """Tell whether two lists are a history of a log, each list explaining its stretch."""
    entries = log.entries()
    if cuts != sorted(set(cuts)) or len(lists) != len(cuts) + 1 or not all(0 < cut < len(entries) for cut in cuts):
        return False
    bounds = [0, *cuts, len(entries)]
    stretches = [Log(log.kind, entries[first:last]) for first, last in zip(bounds, bounds[1:])]
    return all(explains(rules, stretch) for rules, stretch in zip(lists, stretches))


def are_windows_of(log, windows):
    """Tell whether a list consists of windows of a log, by the definition of a core."""
    ascending = all(window == sorted(set(window)) for window in windows)
    cores = all(are_core(log.kind, log.entries(), frozenset(window)) for window in windows)
    return len(windows) > 0 and ascending and cores and all(one[-1] <= two[0] for one, two in zip(windows, windows[1:]))
