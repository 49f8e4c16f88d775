"""Which decisions all lists that explain a log agree on."""

from seenrules.cores import check_left
from seenrules.errors import OtherKind
from seenrules.known import Known
from seenrules.logs import Log, check_log, check_room
from seenrules.questions import Question
from seenrules.tables import Table, indexes_of


def new_cases(log, entries):
    """Return the list of the cases of some entries that a log does not have, each once."""
    known = {case: True for case, answer in log.entries()}
    return list({case: True for case, answer in entries if case not in known})


def sure_answer(question, chosen):
    """Return the only answer that is possible by a set of entries, or None if there are several."""
    found = question.answers_by(chosen)
    return found[0] if len(found) == 1 else None


def entails_all(table, cases, entries):
    """Tell whether the explained log of a table entails some entries; new cases among them are asked about in it."""
    sure = {case: answer for case, answer in table.own_log.entries()}
    places = {case: len(table.words) + at for at, case in enumerate(cases)}
    for case, answer in entries:
        if case not in sure:
            sure[case] = sure_answer(Question(table, places[case], case), table.entered)
        if sure[case] != answer:
            return False
    return True


def entails(log, other):
    """Tell whether a log entails all entries of another log."""
    check_log(log)
    check_log(other)
    if log.kind != other.kind:
        raise OtherKind(other)
    check_room(log)
    cases = new_cases(log, other.entries())
    table = Table(log, cases)
    check_left(table.left_in(table.entered))
    return entails_all(table, cases, other.entries())


def same_lists(one, other):
    """Tell whether exactly the same lists explain two logs."""
    check_log(one)
    check_log(other)
    if one.kind != other.kind:
        raise OtherKind(other)
    check_room(one)
    check_room(other)
    cases = new_cases(one, other.entries())
    other_cases = new_cases(other, one.entries())
    table = Table(one, cases)
    other_table = Table(other, other_cases)
    left = table.left_in(table.entered)
    other_left = other_table.left_in(other_table.entered)
    if left or other_left:
        return left != 0 and other_left != 0
    return entails_all(table, cases, other.entries()) and entails_all(other_table, other_cases, one.entries())


def thinned(log):
    """Return a log of some of the entries, none of them entailed by the other ones, that entails all."""
    check_log(log)
    table = Table(log)
    check_left(table.left_in(table.entered))
    kept = table.entered
    for index, entry in enumerate(log.entries()):
        case, answer = entry
        rest = kept ^ (1 << index)
        # What fewer entries entail, more entail: an entry that stays now is needed at the end, too.
        if sure_answer(Question(table, index, case), rest) == answer:
            kept = rest
    return Log(log.kind, Known(tuple([log[index] for index in indexes_of(kept)])))
