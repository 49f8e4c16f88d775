"""Logs: cases and the answers to them, in the order of time."""

from seenrules.errors import InvalidEntries, InvalidLog, InvalidText, NoEntry, TooMany
from seenrules.kinds import check_answer, check_case, check_kind
from seenrules.known import Known
from seenrules.values import check_integer, is_integer, is_list
from seenrules.writing import entry_text, read_entry

MOST_ENTRIES = 17


def are_entries(kind, value):
    """Tell whether any value is a list of entries of a kind, however long."""
    if not is_list(value):
        return False
    answers = kind.answers()
    for item in value:
        if not isinstance(item, tuple) or len(item) != 2 or item[1] not in answers or not kind.is_case(item[0]):
            return False
    return True


def check_count(count):
    """Raise TooMany for more entries than a log has."""
    if count > MOST_ENTRIES:
        raise TooMany(count)


def checked_entries(kind, value):
    """Return the tuple of the entries of a log, or raise an exception if any value is no list of them."""
    if not are_entries(kind, value):
        raise InvalidEntries(value)
    check_count(len(value))
    # A tuple, because a log never changes.
    return tuple(value)


class Log:
    """Entries, tuples of a case and the answer to it, in the order of time."""

    def __init__(self, kind, entries=()):
        check_kind(kind)
        self.own_kind = kind
        self.own_entries = entries.rows if isinstance(entries, Known) else checked_entries(kind, entries)

    @property
    def kind(self):
        """The kind of the cases."""
        return self.own_kind

    def entries(self):
        """Return the list of the entries."""
        return list(self.own_entries)

    def __len__(self):
        return len(self.own_entries)

    def __getitem__(self, at):
        """Return the entry at an index."""
        if not is_integer(at, 0, len(self.own_entries) - 1):
            raise NoEntry(at)
        return self.own_entries[at]

    def __iter__(self):
        raise TypeError("iterate over entries() instead")

    def __contains__(self, x):
        """Tell whether x is the case of an entry."""
        # A list would equal no case, but True and False would equal 1 and 0.
        return self.own_kind.is_case(x) and x in [case for case, answer in self.own_entries]

    def __eq__(self, other):
        return isinstance(other, Log) and self.own_kind == other.own_kind and self.own_entries == other.own_entries

    def __add__(self, other):
        """Return the log with the entries of a list behind its own."""
        if not are_entries(self.own_kind, other):
            raise InvalidEntries(other)
        check_count(len(self.own_entries) + len(other))
        return Log(self.own_kind, Known((*self.own_entries, *other)))

    def stretch(self, first, last):
        """Return the log of the entries from index first to last - 1."""
        check_integer(first, 0, len(self.own_entries))
        check_integer(last, first, len(self.own_entries))
        return Log(self.own_kind, Known(self.own_entries[first:last]))

    def inserted(self, at, case, answer):
        """Return the log with an entry inserted, which gets the index at."""
        check_integer(at, 0, len(self.own_entries))
        check_case(self.own_kind, case)
        check_answer(self.own_kind, answer)
        check_count(len(self.own_entries) + 1)
        return Log(self.own_kind, Known((*self.own_entries[:at], (case, answer), *self.own_entries[at:])))

    def without(self, index):
        """Return the log without one entry."""
        self.check_index(index)
        return Log(self.own_kind, Known((*self.own_entries[:index], *self.own_entries[index + 1 :])))

    def replaced(self, index, answer):
        """Return the log in which one entry has another answer, or the same."""
        self.check_index(index)
        check_answer(self.own_kind, answer)
        entry = (self.own_entries[index][0], answer)
        return Log(self.own_kind, Known((*self.own_entries[:index], entry, *self.own_entries[index + 1 :])))

    def with_width(self, width):
        """Return the log of the same entries whose kind has this width."""
        return Log(self.own_kind.with_width(width), Known(self.own_entries))

    def projected(self, names):
        """Return the log in which the cases have only the values of the named fields."""
        kind = self.own_kind.projected(names)
        places = [place for place, name in enumerate(self.own_kind.names()) if name in names]
        entries = [(tuple([case[place] for place in places]), answer) for case, answer in self.own_entries]
        return Log(kind, Known(tuple(entries)))

    def cases(self):
        """Return the list of the cases, each once, in the order in which they first appear."""
        # A dict keeps the order in which its keys are added.
        return list({case: True for case, answer in self.own_entries})

    def answers_to(self, case):
        """Return the list of the answers of the entries with a case, in order."""
        check_case(self.own_kind, case)
        return [answer for own_case, answer in self.own_entries if own_case == case]

    def contradictions(self):
        """Yield all pairs of indexes of two entries with the same case and different answers."""
        places = {}
        for index, entry in enumerate(self.own_entries):
            places.setdefault(entry[0], []).append(index)
        if len(places) == len(self.own_entries):
            return
        answers = [answer for case, answer in self.own_entries]
        for first, (case, answer) in enumerate(self.own_entries):
            later = places[case]
            # The entries of this case in front of this one have been taken out, so it is the first of those left.
            del later[0]
            for second in later:
                if answers[second] != answer:
                    yield (first, second)

    def __str__(self):
        return "\n".join([entry_text(entry) for entry in self.own_entries])

    @classmethod
    def parse(cls, kind, text):
        """Return the log of a kind with a text as str gives it."""
        check_kind(kind)
        if not isinstance(text, str):
            raise InvalidText(text)
        entries = [read_entry(kind, line) for line in text.split("\n")] if text else []
        if None in entries or len(entries) > MOST_ENTRIES:
            raise InvalidText(text)
        return cls(kind, Known(tuple(entries)))

    def check_index(self, index):
        """Raise NoEntry for any value that is not the index of an entry."""
        if not is_integer(index, 0, len(self.own_entries) - 1):
            raise NoEntry(index)


def check_log(value):
    """Raise InvalidLog for any value that is not a log."""
    if not isinstance(value, Log):
        raise InvalidLog(value)


def check_room(log):
    """Raise TooMany for a log to which no entry can be added."""
    if len(log) == MOST_ENTRIES:
        raise TooMany(len(log) + 1)
