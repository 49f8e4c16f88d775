"""Which entries of a log meet which conditions, and which strikes are possible.

A set of entries is an integer here: the entry with an index is in it if the bit of
the value 1 << index is set. Cases that are asked about stand behind the entries and
are in such sets, too.
"""

from seenrules.kinds import OPERATORS


def set_of(indexes):
    """Return the set of the entries with some different indexes."""
    return sum([1 << index for index in indexes])


def indexes_of(chosen):
    """Return the list of the indexes of the entries in a set."""
    return [index for index in range(chosen.bit_length()) if chosen >> index & 1]


def stretch_of(first, last):
    """Return the set of the entries from index first to last - 1."""
    return (1 << last) - (1 << first)


def sets_of_items(items):
    """Return a dict from each of some items to the set of the places where it stands."""
    found = {}
    place = 1
    for item in items:
        found[item] = found.get(item, 0) | place
        place = place << 1
    return found


def word_column(words):
    """Return a dict from each of some words to the set that meets its strongest test, in a tuple."""
    found = sets_of_items(words)
    return {word: (found[word],) for word in found}


def number_column(numbers):
    """Return a dict from each of some numbers to the two sets that meet its strongest tests, in a tuple."""
    found = sets_of_items(numbers)
    column = {}
    most = 0
    least = (1 << len(numbers)) - 1
    for number in sorted(found):
        most = most | found[number]
        column[number] = (most, least)
        least = least ^ found[number]
    return column


def columns_of(kind, cases):
    """Return for each field of a kind what word_column or number_column returns for the values of the cases."""
    columns = []
    for place, field in enumerate(kind.fields()):
        values = [case[place] for case in cases]
        columns.append(word_column(values) if field[1] == "word" else number_column(values))
    return columns


def row_of(columns, case):
    """Return the list of the sets that meet the strongest tests of a case."""
    return [met for column, value in zip(columns, case) for met in column[value]]


def singles_of(columns, entries):
    """Return the list of the sets that meet the strongest tests of the cases of a set of entries."""
    parts = [tests for column in columns for tests in list(column.values())]
    # All tests on a field are met together by those alone that have this very value.
    return [met for tests in parts if tests[0] & tests[-1] & entries for met in tests]


def tests_by_set(kind, columns):
    """Return a dict from each set that meets a strongest test to such a test."""
    return {
        met: (field[0], operator, value)
        for field, column in zip(kind.fields(), columns)
        for value, parts in column.items()
        for met, operator in zip(parts, OPERATORS[field[1]])
    }


def pairs_of(rows):
    """Return a dict from each set that meets two sets of a row to these two."""
    return {one & other: (one, other) for row in rows for at, one in enumerate(row) for other in row[at + 1 :]}


def rivals_of(words):
    """Return a list that has, behind a zero, for each entry the set of those with other answers than its own."""
    everything = (1 << len(words)) - 1
    found = sets_of_items(words)
    # With the zero the last entry of a set has its place at the bit length of the set.
    return [0, *[everything ^ found[word] for word in words]]


def struck_once(sets, rivals, left, struck):
    """Try each set of a list once; return the set of the entries left, and the list of the sets to be tried again."""
    waiting = []
    for met in sets:
        here = left & met
        if here and here & rivals[here.bit_length()]:
            waiting.append(met)
        elif here:
            struck.append((met, here))
            left = left ^ here
    return (left, waiting)


def struck_in(sets, rivals, chosen):
    """Strike entries of a set until no strike is possible; return the set of those left, and the list of the strikes.

    A strike is a tuple of the set that meets its condition and the set of the entries that it strikes.
    """
    left = chosen
    waiting = sets
    struck = []
    before = 0
    while left and left != before:
        before = left
        left, waiting = struck_once(waiting, rivals, left, struck)
    return (left, struck)


def can_strike(sets, rivals, chosen):
    """Tell whether a strike of entries of a set is possible."""
    for met in sets:
        here = chosen & met
        if here and not here & rivals[here.bit_length()]:
            return True
    return False


class Table:
    """The entries of a log and further cases, and the conditions of the strongest tests of the entries' cases.

    The words are the answers of the entries, the set entered has all entries, and everything
    the further cases, too. The dict made_of has the sets that meet the conditions as keys, and
    for each the sets that meet its tests; the list sets has the same keys.
    """

    def __init__(self, log, asked=()):
        entries = log.entries()
        cases = [case for case, answer in entries]
        self.own_log = log
        self.words = [answer for case, answer in entries]
        self.rivals = rivals_of(self.words)
        self.entered = (1 << len(entries)) - 1
        self.everything = (1 << (len(entries) + len(asked))) - 1
        self.columns = columns_of(log.kind, [*cases, *asked])
        self.named = {}
        # The rows are needed for conditions of two tests alone.
        rows = [row_of(self.columns, case) for case in {case: True for case in cases}] if log.kind.width > 1 else []
        self.made_of = self.conditions_of(singles_of(self.columns, self.entered), rows)
        # Backward, so that conditions of fewer tests stand in front.
        self.sets = list(self.made_of)[::-1]

    def conditions_of(self, singles, rows):
        """Return a dict from each set that meets a condition to the sets that meet its tests, as few as are enough."""
        made = pairs_of(rows) if self.own_log.kind.width > 1 else {}
        if self.own_log.kind.width > 0:
            made.update({met: (met,) for met in singles})
        made[self.everything] = ()
        return made

    def left_in(self, chosen):
        """Return the set of the entries that all strikes leave: the greatest core in a set, or nothing."""
        return struck_in(self.sets, self.rivals, chosen)[0]

    def tests_of(self, parts):
        """Return the tuple of the tests that some sets meet."""
        if parts and not self.named:
            self.named = tests_by_set(self.own_log.kind, self.columns)
        return tuple([self.named[met] for met in parts])

    def rule_of(self, met, here, words):
        """Return the rule that a strike makes; the words are the answers of all entries."""
        return (self.tests_of(self.made_of[met]), words[here.bit_length() - 1])

    def rules_of(self, struck, words):
        """Return the list of the rules that strikes make."""
        return [self.rule_of(met, here, words) for met, here in struck]
