"""How far one rule list after another explains a log, from its first entry on or back from its last.

A walk is a list of tuples of the index of a stretch's first entry, strikes of all its
entries, and a core of its entries together with the next one, or 0 at the end of the log.
"""

from seenrules.stripping import rule_list_of
from seenrules.tables import indexes_of, struck_in


def answer_by(struck, words, index):
    """Return the answer that the rules of strikes give to an entry; the last rule decides what the others leave."""
    for met, here in struck:
        if met >> index & 1:
            return words[here.bit_length() - 1]
    return words[struck[-1][1].bit_length() - 1]


def longest(table, words, rivals, indexes):
    """Return how many of some entries in a row one list explains, their strikes, and a core that has the next one."""
    struck = [(table.everything, 1 << indexes[0])]
    chosen = 0
    count = 0
    for index in indexes:
        chosen = chosen | 1 << index
        # Nothing is struck anew as long as the rules at hand explain the next entry, too.
        if answer_by(struck, words, index) != words[index]:
            left, found = struck_in(table.sets, rivals, chosen)
            if left:
                return (count, struck, left)
            struck = found
        count += 1
    return (count, struck, 0)


def walk(table, words, rivals, most, known):
    """Return the walk from the first entry on, of some stretches at most, and keep in a dict what longest returns."""
    stretches = []
    start = 0
    while start < len(words) and len(stretches) < most:
        if start not in known:
            known[start] = longest(table, words, rivals, list(range(start, len(words))))
        count, struck, core = known[start]
        stretches.append((start, struck, core))
        start += count
    return stretches


def walk_of(table, most):
    """Return the walk for the answers of a table's log, of some stretches at most."""
    return walk(table, table.words, table.rivals, most, {})


def is_stopped(stretches):
    """Tell whether a walk does not reach the end of the log."""
    return len(stretches) > 0 and stretches[-1][2] != 0


def windows_of(stretches):
    """Return the list of the cores of a walk, as lists of indexes."""
    return [indexes_of(core) for start, struck, core in stretches if core]


def history_of(table, words, stretches):
    """Return the cuts and the rule lists of a walk that reaches the end of the log."""
    kind = table.own_log.kind
    cuts = [start for start, struck, core in stretches[1:]]
    lists = [rule_list_of(kind, table.rules_of(struck, words)) for start, struck, core in stretches]
    return (cuts, lists or [rule_list_of(kind, [])])


def starts_back(table):
    """Return the number of entries, and then the least index down to which one list more explains them each time."""
    starts = [len(table.words)]
    while starts[-1] > 0:
        indexes = list(range(starts[-1]))[::-1]
        starts.append(starts[-1] - longest(table, table.words, table.rivals, indexes)[0])
    return starts
