"""Which answers are possible for a case at a moment, if the rules may have been changed."""

from seenrules.changes import are_windows_in, check_changes, is_history_of
from seenrules.errors import DoesNotFit
from seenrules.kinds import check_case
from seenrules.logs import check_log, check_room
from seenrules.questions import Question
from seenrules.tables import Table, rivals_of, stretch_of
from seenrules.values import check_integer
from seenrules.verdicts import word_for
from seenrules.walks import history_of, is_stopped, starts_back, walk, walk_of, windows_of


def check_moment(log, at, case, changes):
    """Raise the exceptions for wrong arguments of a question about a moment."""
    check_log(log)
    check_integer(at, 0, len(log))
    check_case(log.kind, case)
    check_changes(changes)
    check_room(log)


def check_fitting(stretches):
    """Raise DoesNotFit with the windows of a walk that does not reach the end of the log."""
    if is_stopped(stretches):
        raise DoesNotFit(windows_of(stretches))


def with_answer(words, at, answer):
    """Return the answers of a log, one of them replaced."""
    return [*words[:at], answer, *words[at + 1 :]]


def verdict_at(log, at, case, *, changes=0):
    """Return "sure" or "open", histories with the possible answers, and windows against the other ones."""
    check_moment(log, at, case, changes)
    answers = log.kind.answers()
    table = Table(log.inserted(at, case, answers[0]))
    histories = {}
    windows = {}
    known = {}
    for answer in answers:
        words = with_answer(table.words, at, answer)
        stretches = walk(table, words, rivals_of(words), changes + 1, known)
        if is_stopped(stretches):
            windows[answer] = windows_of(stretches)
        else:
            histories[answer] = history_of(table, words, stretches)
        # Stretches that neither have the case nor end before it are the same for each answer.
        known = {start: known[start] for start in known if at < start or start + known[start][0] < at}
    if not histories:
        # If the log fits, the answer of the list that is in force at this moment is possible.
        check_fitting(walk_of(Table(log), changes + 1))
    return (word_for(histories), histories, windows)


def spans_at(ends, backs, at, changes):
    """Return tuples (first, last) of stretches that one list explains, one for each way to divide the changes.

    The changes are enough for what is before and behind such a stretch, and the moment is at its edge or in it.
    """
    found = []
    for before in range(changes + 1):
        behind = changes - before
        first = min(ends[before], at)
        last = max(backs[behind], at)
        # A list explains the entries from one end up to the next, and from a start back to the next.
        is_one = last <= ends[before + 1] if first == ends[before] else first >= backs[behind + 1]
        if is_one:
            found.append((first, last))
        if first == at:
            # With more changes before it the case would be asked beside more entries, not fewer.
            return found
    return found


def timeline(log, case, *, changes=0):
    """Return the lists of the possible answers for a case at all moments."""
    check_moment(log, 0, case, changes)
    table = Table(log, [case])
    stretches = walk_of(table, changes + 1)
    check_fitting(stretches)
    # Both go on at the edge of the log for changes that are not needed.
    ends = [start for start, struck, core in stretches] + [len(log)] * (changes + 2)
    backs = starts_back(table) + [0] * (changes + 2)
    question = Question(table, len(log), case)
    known = {}
    found = []
    for at in range(len(log) + 1):
        spans = spans_at(ends, backs, at, changes)
        for first, last in spans:
            if (first, last) not in known:
                known[(first, last)] = question.answers_by(stretch_of(first, last))
        some = [answer for span in spans for answer in known[span]]
        found.append([answer for answer in log.kind.answers() if answer in some])
    return found


def is_shown_at(table, at, answer, changes, histories, windows):
    """Tell whether a history shows that an answer is possible, or windows that it is not."""
    words = with_answer(table.words, at, answer)
    if answer not in histories:
        value = windows.get(answer)
        return are_windows_in(table, rivals_of(words), value) and len(value) == changes + 1
    value = histories[answer]
    if not isinstance(value, tuple) or len(value) != 2:
        return False
    cases = [case for case, word in table.own_log.entries()]
    entries = list(zip(cases, words))
    return is_history_of(table.own_log.kind, entries, value[0], value[1]) and len(value[0]) <= changes


def is_verdict_at(log, at, case, value, *, changes=0):
    """Tell whether any value is a verdict on a case at a moment."""
    check_moment(log, at, case, changes)
    if not isinstance(value, tuple) or len(value) != 3:
        return False
    word, histories, windows = value
    if not isinstance(histories, dict) or not isinstance(windows, dict):
        return False
    answers = log.kind.answers()
    # With as many keys as answers, and each answer among them, no key is another one or in both dicts.
    if len(histories) + len(windows) != len(answers) or word != word_for(histories):
        return False
    table = Table(log.inserted(at, case, answers[0]))
    return all([is_shown_at(table, at, answer, changes, histories, windows) for answer in answers])
