"""Which entries of a log meet which conditions, reckoned once for all sets of its entries.

A set of entries is an integer here: the entry with an index is in it if the
bit of the value 1 << index is set.
"""

from seenrules.meeting import conditions, first_unmet, strongest


def set_of(indexes):
    """Return the set of the entries with some different indexes."""
    return sum([1 << index for index in indexes])


def indexes_of(chosen):
    """Return the list of the indexes of the entries in a set."""
    return [index for index in range(chosen.bit_length()) if chosen >> index & 1]


def sets_of_tests(log):
    """Return a dict from each strongest test of a case of a log to the set of the entries that meet it."""
    kind = log.kind
    cases = [case for case, answer in log.entries()]
    met_by = {}
    for case in log.cases():
        for test in strongest(kind, case):
            if test not in met_by:
                met = [index for index, other in enumerate(cases) if first_unmet(kind, other, [test]) is None]
                met_by[test] = set_of(met)
    return met_by


def rows_of_entry(log, index, met_by):
    """Return what a strike needs, for each condition of the strongest tests of an entry's case.

    A row has the set of this one entry, the set of the entries that meet the condition,
    the set of those among them with another answer, the condition, and the entry's answer.
    """
    kind = log.kind
    case, answer = log[index]
    others = set_of([at for at, entry in enumerate(log.entries()) if entry[1] != answer])
    rows = []
    known = {}
    for tests in conditions(kind, case):
        met = (1 << len(log)) - 1
        for test in tests:
            met = met & met_by[test]
        # A longer condition that the same entries meet is of no use.
        if met not in known:
            known[met] = True
            rows.append((1 << index, met, met & others, tuple(tests), answer))
    return rows


class Table:
    """The conditions of the cases of a log, and the strikes that are possible in sets of its entries."""

    def __init__(self, log):
        met_by = sets_of_tests(log)
        self.everything = (1 << len(log)) - 1
        self.rows = [row for index in range(len(log)) for row in rows_of_entry(log, index, met_by)]

    def strikes_in(self, chosen):
        """Yield tuples of a condition, an answer and the set of struck entries, until no strike is possible."""
        left = chosen
        before = None
        while left != before:
            before = left
            for entry, met, rivals, tests, answer in self.rows:
                if left & entry and not left & rivals:
                    yield (tests, answer, left & met)
                    left = left & ~met

    def left_in(self, chosen):
        """Return the set of the entries that all strikes leave: the greatest core in a set, or nothing."""
        left = chosen
        for tests, answer, struck in self.strikes_in(chosen):
            left = left & ~struck
        return left
